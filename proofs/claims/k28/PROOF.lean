import PyProof.Rows.All
import Wide.All
import OpenK.AllK
import Wide.FinOn
import Lean
import PyProof.EqAt
import PyProof.EqKinds
import PyProof.TupleCall
import PySem.Challenge.RW_nesthall_k28_a_plain_runner
set_option Elab.async false
set_option linter.all false
set_option maxRecDepth 100000
set_option maxHeartbeats 0 in
theorem Ru.saidR:PySem.Challenge.rw_nesthall_k28_a_plain_runner.row.wellSaid=true:=by kernel_rfl
set_option maxHeartbeats 0 in
theorem Ru.said:PySem.Challenge.rw_nesthall_k28_a_plain_runner.wellSaid=true:=by
 unfold PySem.W.OpenLaw.wellSaid
 rw[Ru.saidR]
 kernel_rfl
abbrev cM:=@List.length_map
abbrev cj:=@List.getElem?_eq_getElem
abbrev dJ:=@List.length_append
abbrev bu:=@Nat.le_refl
abbrev yZ:=@List.getElem?_eq_some_iff
abbrev zc:=@List.size_toArray
abbrev mU:=@Bool.false_ne_true
abbrev oN:=@Option.some.inj
abbrev jH:=@List.map_append
abbrev tW:=@List.take_of_length_le
abbrev cJ:=@List.mem_singleton
abbrev jl:=@List.getD_eq_getElem?_getD
abbrev gC:=@List.length_cons
abbrev dN:=@List.length_take
abbrev gB:=@List.take_add_one
abbrev jj:=@List.length_singleton
abbrev dG:=@List.mem_cons
abbrev dM:=@List.append_nil
abbrev cX:=@List.mem_append
abbrev fO:=@List.mem_map
abbrev qd:=@List.getElem?_map
abbrev jh:=@List.length_filter_le
abbrev fB:=@List.getElem_mem
abbrev dq:=@List.mem_filter
abbrev Du:=@Int.toNat_natCast
abbrev KI(K:PySem.W.Frag)(a:PySem.Addr):Prop:=PySem.W.keepIn K (.ref a)=true
namespace L2
open PySem PySem.Spec PyProof.Rows
abbrev Key:=Sum Int Str
def Ax:Key->Value->Bool
 | .inl k,v=>Value.isInt k v
 | .inr x,v=>Value.isStrOf x v
def qDJ(w:World):Key->Int
 | .inl k=>hashInt k
 | .inr x=>hashStr w x
theorem cT:∀ {k:Key} {v:Value},Ax k v=true->(∃ i t,k=Sum.inl i/\v=Value.int i t) ∨ (∃ x t,k=Sum.inr x/\v=Value.str x t)
 | .inl i,v,h=>by
  obtain⟨t,e⟩:=Value.isInt_shape (k:=i) (v:=v) h
  exact .inl ⟨i,t,rfl,e⟩
 | .inr x,v,h=>by
  obtain⟨t,e⟩:=Value.isStrOf_shape (x:=x) (v:=v) h
  exact .inr ⟨x,t,rfl,e⟩
theorem Nj(i:Int)(t:Tok):Ax (.inl i) (.int i t)=true:=by simp [Ax,Value.isInt]
theorem Ni(x:Str)(t:Tok):Ax (.inr x) (.str x t)=true:=by simp [Ax,Value.isStrOf]
theorem Yj(a b:Int):decide ((Sum.inl a:Key)=Sum.inl b)=(a == b):=by
 by_cases e:a=b
 ·subst e;simp
 ·have h:¬ (Sum.inl a:Key)=Sum.inl b:=fun q=>e (Sum.inl.inj q)
  rw[decide_eq_false h]
  exact (beq_eq_false_iff_ne.mpr e).symm
theorem Yg(a b:Str):decide ((Sum.inr a:Key)=Sum.inr b)=decide (a=b):=by
 by_cases e:a=b
 ·subst e;simp
 ·have h:¬ (Sum.inr a:Key)=Sum.inr b:=fun q=>e (Sum.inr.inj q)
  rw[decide_eq_false h,decide_eq_false e]
theorem Yi(a:Int)(b:Str):decide ((Sum.inl a:Key)=Sum.inr b)=false:=decide_eq_false (fun q=>nomatch q)
theorem Yh(a:Str)(b:Int):decide ((Sum.inr a:Key)=Sum.inl b)=false:=decide_eq_false (fun q=>nomatch q)
def cR(prog:Program)(w:World):PySem.KeyKind prog w Key where
 is:=Ax
 hash:=qDJ w
 inj:=fun v a b ha hb=>by
  rcases cT ha with ⟨i,t,rfl,rfl⟩ | ⟨x,t,rfl,rfl⟩
  ·rcases cT hb with ⟨j,u,rfl,e⟩ | ⟨y,u,rfl,e⟩
   ·injection e with e1 _;rw[e1]
   ·exact nomatch e
  ·rcases cT hb with ⟨j,u,rfl,e⟩ | ⟨y,u,rfl,e⟩
   ·exact nomatch e
   ·injection e with e1 _;rw[e1]
 byValue:=fun k v h=>by
  rcases cT h with ⟨i,t,rfl,rfl⟩ | ⟨x,t,rfl,rfl⟩ <;> rfl
 pyHash:=fun hv h=>by
  rcases cT hv with ⟨i,t,rfl,rfl⟩ | ⟨x,t,rfl,rfl⟩
  ·exact wpAny_pyHash_int h
  ·exact wpAny_pyHash_str h
 eqBool:=fun hu hv h=>by
  rcases cT hu with ⟨i,t,rfl,rfl⟩ | ⟨x,t,rfl,rfl⟩
  ·rcases cT hv with ⟨j,u,rfl,rfl⟩ | ⟨y,u,rfl,rfl⟩
   ·rw[Yj]at h;exact wpAny_eqBool_int h
   ·rw[Yi]at h;exact SeqAt.EqAt.int_str i t y u _ _ _ _ h
  ·rcases cT hv with ⟨j,u,rfl,rfl⟩ | ⟨y,u,rfl,rfl⟩
   ·rw[Yh]at h;exact SeqAt.EqAt.str_int x t j u _ _ _ _ h
   ·rw[Yg]at h;exact wpAny_eqBool_str h
 «strs»:=fun k x t v h=>by
  rcases cT h with ⟨i,u,rfl,e⟩ | ⟨y,u,rfl,e⟩
  ·exact nomatch e
  ·injection e with e1 _
   subst e1
   cases v <;> rfl
theorem Ff(prog:Program)(w:World)(i:Int)(t:Tok):(cR prog w).is (.inl i) (.int i t)=true:=Nj i t
theorem Fe(prog:Program)(w:World)(x:Str)(t:Tok):(cR prog w).is (.inr x) (.str x t)=true:=Ni x t
inductive V where
 | non | bl (b:Bool) | int (i:Int) | str (x:Str) | Ph (b:Array UInt8) | flt (b:UInt64) | ref (a:Addr) | ty (n:String)
 deriving DecidableEq
def RelV:V->Value->Prop
 | .non,u=>u=Value.none
 | .bl b,u=>u=Value.bool b
 | .int i,u => ∃ t,u=Value.int i t
 | .str x,u => ∃ t,u=Value.str x t
 | .Ph b,u => ∃ t,u=Value.bytes b t
 | .flt b,u => ∃ t,u=Value.float b t
 | .ref a,u=>u=Value.ref a
 | .ty n,u=>u=Value.type n
abbrev Vals:List V->List Value->Prop:=Paired RelV
theorem Vals.length{xs:List V}{us:List Value}(r:Vals xs us):xs.length=us.length:=Paired.length r
theorem Vals.get:∀ {xs:List V} {us:List Value} {i:Nat} {x:V},Vals xs us->xs[i]? = some x->∃ u,us[i]? = some u/\RelV x u
 | _,_,_,_,.nil,e=>by simp at e
 | _,_,0,_,.cons r _,e=>by simp at e;subst e;exact⟨_,rfl,r⟩
 | _,_,i+1,x,.cons _ t,e=>by
  obtain⟨u,h1,h2⟩:=Vals.get (i:=i) (x:=x) t (by simpa using e)
  exact⟨u,by simpa using h1,h2⟩
theorem Vals.set{x:V}{u:Value}(r:RelV x u):∀ {xs:List V} {us:List Value} (i:Nat),Vals xs us->Vals (xs.set i x) (us.set i u)
 | _,_,_,.nil=>.nil
 | _,_,0,.cons _ t=>.cons r t
 | _,_,i+1,.cons q t=>.cons q (Vals.set r i t)
theorem Vals.append:∀ {xs ys:List V} {us ws:List Value},Vals xs us->Vals ys ws->Vals (xs++ys) (us++ws)
 | _,_,_,_,.nil,s=>s
 | _,_,_,_,.cons r t,s=>.cons r (Vals.append t s)
theorem Vals.take:∀ {xs:List V} {us:List Value} (n:Nat),Vals xs us->Vals (xs.take n) (us.take n)
 | _,_,0,_=>.nil
 | _,_,_+1,.nil=>.nil
 | _,_,n+1,.cons r t=>.cons r (Vals.take n t)
theorem Vals.drop:∀ {xs:List V} {us:List Value} (n:Nat),Vals xs us->Vals (xs.drop n) (us.drop n)
 | _,_,0,r=>r
 | _,_,_+1,.nil=>.nil
 | _,_,n+1,.cons _ t=>Vals.drop n t
def qg:Option V->Option Value->Prop
 | some v,some u=>RelV v u
 | none,none=>True
 | _,_=>False
def KV{κ:Type}:List (κ × V)->List (κ × Value)->Prop:=Paired fun (p:κ × V) (q:κ × Value)=>p.1=q.1/\RelV p.2 q.2
def kV:Key->V
 | .inl i=>.int i
 | .inr x=>.str x
inductive HO where
  | lst (xs:List V)
  | tup (xs:List V)
  | dK (kvs:List (Key × V)) | dT (kvs:List (List Key × V))
  | set (S:Int->Bool) (n:Nat)
  | ins (C dx:Addr) (fs:List (Str × V))
  | own (x:Addr)
  | xd (fs:List (Str × V))
  | met (f x:Addr)
  | rng (lo hi:Int)
  | Kw (o:Obj) (u:HO)
  | Xf (ps:Array Value)
  | ext (φ:Heap->Prop)
abbrev Hp:=Addr->Option HO
def upd(H:Hp)(a:Addr)(o:HO):Hp:=fun b=>if b=a then some o else H b
theorem zC{H:Hp}{a:Addr}{o:HO}:upd H a o a=some o:=by unfold upd;rw[if_pos rfl]
theorem zQ{H:Hp}{a b:Addr}{o:HO}(h:b ≠ a):upd H a o b=H b:=by unfold upd;rw[if_neg h]
theorem cC{H:Hp}{a b:Addr}{o u:HO}(h:H a=some o)(h':H b=some u)(d:o ≠ u):a ≠ b:=by
 intro e;subst e;rw[h]at h';exact d (oN h')
theorem zM{H:Hp}{a b:Addr}{o:HO}(h:H a=some o)(h':H b=none):a ≠ b:=by
 intro e;subst e;rw[h]at h';cases h'
section
variable(P:Program)(w:World)
def cV(H:Hp)(h:Heap)(a:Addr):HO->Prop
 | .lst xs=>xs.length<=sizeLine/\∃(its:List Value)(n:Nat),Vals xs its/\h.get? a=some { cls:=.type "list",data:=.seq its.toArray n }
 | .tup xs=>xs.length<=sizeLine/\∃ its:List Value,Vals xs its/\IsTup h a its.toArray
 | .dK kvs=>kvs.length<=sizeLine/\(a == sysModules)=false/\∃ vs,KV kvs vs/\h.DictOf (cR P w) a vs
 | .dT kvs=>kvs.length<=sizeLine/\(a == sysModules)=false/\∃ xs:List (List Key × Addr × Value),
   Paired (fun (p:List Key × V) (q:List Key × Addr × Value)=>p.1=q.1/\H q.2.1=some (.tup (p.1.map kV))/\RelV p.2 q.2.2) kvs xs ∧
   ∃ o es ep,h.get? a=some o/\o.ExactDict/\o.data = .dict es ep/\es.toList=xs.map (entryOfKey (tupleKind (cR P w)))/\(xs.map (·.1)).Nodup
 | .set S n=>h.SetOf (intKind P w) a S n
 | .ins C dx fs=>H dx=some (.own a)/\fs.length<=1000/\dx ≠ a/\h.get? a=some (PySem.W.instObj C dx) ∧
   ∃ mA,h.Ns1 dx mA/\(∀ f,qg (fs.lookup f) (mA f))/\PySem.Within mA (fs.map (·.1))
 | .own _ => ∃ o,h.get? a=some o
 | .xd fs => ∃ mA,h.Ns1 a mA/\∀ f,qg (fs.lookup f) (mA f)
 | .rng lo hi => ∃ t u v,h.get? a=some { cls:=.type "range",data:=.fields #[.int lo t,.int hi u,.int 1 v] }
 | .Kw o u=>h.get? a=some o/\cV H h a u
 | .Xf ps=>h.get? a=some { cls:=.none,data:=.fields ps }
 | .met f x=>h.get? a=some (PySem.W.methodObj (.ref f) (.ref x))
 | .ext φ=>φ h/\(∃ o,h.get? a=some o)/\∀ h1 h2:Heap,φ h1->(∀ o,h1.get? a=some o->h2.get? a=some o)->φ h2
def qW(H:Hp)(h:Heap):Prop:=∀ a o,H a=some o->cV P w H h a o
end
section
variable{P:Program}{w:World}{H H':Hp}{h h':Heap}{a:Addr}{o:HO}
theorem cV.lt(x:cV P w H h a o):a < h.objs.size:=by
 cases o with
 | lst xs=>obtain⟨_,_,_,_,e⟩:=x;exact Heap.lt_size e
 | tup xs=>obtain⟨_,_,_,p⟩:=x;exact p.lt
 | dK kvs=>obtain⟨_,_,_,_,o,_,_,e,_⟩:=x;exact Heap.lt_size e
 | dT kvs=>obtain⟨_,_,_,_,o,_,_,e,_⟩:=x;exact Heap.lt_size e
 | set S n=>obtain⟨o,_,_,_,e,_⟩:=x;exact Heap.lt_size e
 | ins C dx fs=>obtain⟨_,_,_,e,_⟩:=x;exact Heap.lt_size e
 | own y=>obtain⟨_,e⟩:=x;exact Heap.lt_size e
 | xd fs=>obtain⟨_,⟨_,_,_,e,_⟩,_⟩:=x;exact Heap.lt_size e
 | rng lo hi=>obtain⟨_,_,_,e⟩:=x;exact Heap.lt_size e
 | Kw ob u=>obtain⟨e,_⟩:=x;exact Heap.lt_size e
 | Xf ps=>exact Heap.lt_size (show h.get? a=some _ from x)
 | met f y=>exact Heap.lt_size (show h.get? a=some _ from x)
 | ext φ=>obtain⟨_,⟨_,e⟩,_⟩:=x;exact Heap.lt_size e
theorem Paired.YW{α β:Type}{F G:α->β->Prop}:∀ {l₁:List α} {l₂:List β},Paired F l₁ l₂->(∀ a b,F a b->G a b)->Paired G l₁ l₂
 | _,_,.nil,_=>.nil
 | _,_,.cons r t,f=>.cons (f _ _ r) (Paired.YW t f)
theorem cV.stay(x:cV P w H h a o)(k:∀ b u,(b=a ∨ H b=some (.own a))->h.get? b=some u->h'.get? b=some u)
  (ho:∀ b,H b=some (.own a)->H' b=some (.own a)) (ht:∀ b xs,H b=some (.tup xs)->H' b=some (.tup xs)):cV P w H' h' a o:=by
 induction o with
 | lst xs=>obtain⟨z,its,n,r,e⟩:=x;exact⟨z,its,n,r,k _ _ (.inl rfl) e⟩
 | tup xs=>obtain⟨z,its,r,ob,e,c⟩:=x;exact⟨z,its,r,ob,k _ _ (.inl rfl) e,c⟩
 | dK kvs=>obtain⟨z,y,vs,r,ob,es,ep,e,c⟩:=x;exact⟨z,y,vs,r,ob,es,ep,k _ _ (.inl rfl) e,c⟩
 | dT kvs=>
  obtain⟨z,y,xs,r,ob,es,ep,e,c⟩:=x
  exact⟨z,y,xs,Paired.YW r fun p q z=>⟨z.1,ht _ _ z.2.1,z.2.2⟩,ob,es,ep,k _ _ (.inl rfl) e,c⟩
 | set S n=>obtain⟨ob,es,ep,t,e,c⟩:=x;exact⟨ob,es,ep,t,k _ _ (.inl rfl) e,c⟩
 | ins C dx fs=>
  obtain⟨d,z,ne,e,mA,⟨od,es,ep,e2,c⟩,r⟩:=x
  exact⟨ho _ d,z,ne,k _ _ (.inl rfl) e,mA,⟨od,es,ep,k _ _ (.inr d) e2,c⟩,r⟩
 | own y=>obtain⟨ob,e⟩:=x;exact⟨ob,k _ _ (.inl rfl) e⟩
 | xd fs=>obtain⟨mA,⟨od,es,ep,e,c⟩,r⟩:=x;exact⟨mA,⟨od,es,ep,k _ _ (.inl rfl) e,c⟩,r⟩
 | rng lo hi=>obtain⟨t,u,v,e⟩:=x;exact⟨t,u,v,k _ _ (.inl rfl) e⟩
 | Kw ob u ih=>obtain⟨e,q⟩:=x;exact⟨k _ _ (.inl rfl) e,ih q⟩
 | Xf ps=>
  have e:h.get? a=some { cls:=.none,data:=.fields ps }:=x
  show h'.get? a=some { cls:=.none,data:=.fields ps }
  exact k a _ (.inl rfl) e
 | met f y=>
  have e:h.get? a=some (PySem.W.methodObj (.ref f) (.ref y)):=x
  show h'.get? a=some (PySem.W.methodObj (.ref f) (.ref y))
  exact k a _ (.inl rfl) e
 | ext φ=>obtain⟨p,⟨o,e⟩,st⟩:=x;exact⟨st _ _ p fun o q=>k _ _ (.inl rfl) q,⟨o,k _ _ (.inl rfl) e⟩,st⟩
theorem qW.lt(x:qW P w H h)(e:H a=some o):a < h.objs.size:=(x a o e).lt
theorem qW.fresh(x:qW P w H h)(e:h.objs.size<=a):H a=none:=by
 cases q:H a with
 | none=>rfl
 | some u=>exact absurd (Nat.lt_of_lt_of_le (x.lt q) e) (Nat.lt_irrefl _)
theorem qW.kept(x:qW P w H h)(k:∀ b u,h.get? b=some u->h'.get? b=some u):qW P w H h':=fun a o e=>
 (x a o e).stay (fun b u _ q=>k b u q) (fun _ q=>q) fun _ _ q=>q
theorem qW.laid(x:qW P w H h)(k:∀ b u,h.get? b=some u->h'.get? b=some u)(hp:h.objs.size<=a)(new:cV P w (upd H a o) h' a o):qW P w (upd H a o) h':=fun b u e=>by
 have hn:=x.fresh hp
 by_cases hb:b=a
 ·subst hb;rw[zC]at e;cases e;exact new
 ·rw[zQ hb]at e
  exact (x b u e).stay (fun c v _ q=>k c v q) (fun c q=>by rw[zQ (zM q hn)];exact q) fun c xs q=>by rw[zQ (zM q hn)];exact q
end
def Rd(H:Hp)(a:Addr)(u:HO):Prop:=H a=some u ∨ ∃ o,H a=some (.Kw o u)
theorem Rd.ok{P:Program}{w:World}{H:Hp}{h:Heap}{a:Addr}{u:HO}(r:Rd H a u)(x:qW P w H h):cV P w H h a u:=by
 rcases r with r | ⟨o,r⟩
 ·exact x a u r
 ·obtain⟨_,q⟩:=x a _ r
  exact q
def Mut:Option HO->Prop
 | some (.lst _)=>True
 | some (.dK _)=>True
 | some (.dT _)=>True
 | some (.set _ _)=>True
 | some (.ins _ _ _)=>True
 | some (.ext _)=>True
 | _=>False
section
variable{P:Program}{w:World}{H:Hp}{h h':Heap}{x e:Addr}{o':HO}
theorem qW.write(ok:qW P w H h)(mu:Mut (H x))(he:e=x ∨ H e=some (.own x))(k:∀ b u,b ≠ e->h.get? b=some u->h'.get? b=some u)(heo:∃ u,h'.get? e=some u)
  (new:cV P w (upd H x o') h' x o'):qW P w (upd H x o') h':=fun b u q=>by
 have qBF:∀ c y,H c=some (.own y)->c ≠ x:=fun c y r z=>by subst z;rw[r]at mu;exact mu
 have qD6:∀ c xs,H c=some (.tup xs)->c ≠ x:=fun c xs r z=>by subst z;rw[r]at mu;exact mu
 by_cases hb:b=x
 ·subst hb;rw[zC]at q;cases q;exact new
 ·rw[zQ hb]at q
  by_cases hbe:b=e
  ·have q':H b=some (.own x):=by
    rcases he with z | z
    ·exact absurd (hbe.trans z) hb
    ·rw[hbe];exact z
   rw[q]at q';cases q'
   obtain⟨v,hv⟩:=heo
   exact⟨v,by rw[hbe];exact hv⟩
  ·refine (ok b u q).stay (fun c v hc r=>k c v ?_ r) (fun c r=>by rw[zQ (qBF c b r)];exact r) fun c xs r=>by rw[zQ (qD6 c xs r)];exact r
   rcases hc with rfl | hc
   ·exact hbe
   ·rintro rfl
    rcases he with z | z
    ·exact qBF c b hc z
    ·rw[hc]at z;cases z;exact hb rfl
end
structure Un(fs ex:List Addr)(H H':Hp)(h h':Heap):Prop where
 keep:∀ b o,h.get? b=some o->H b=none->b ∉ fs->b ∉ ex->h'.get? b=some o
 slot:∀ b o,h.get? b=some o->H b=none->b∈fs->b ∉ ex->∃ sl,h'.get? b=some { o with slots:=sl }
 free:∀ b o,h.get? b=some o->H b=none->b ∉ ex->H' b=none
 there:∀ b o,h.get? b=some o->b ∉ ex->∃ o',h'.get? b=some o'
 tups:∀ b xs,H b=some (.tup xs)->H' b=some (.tup xs)
 yw:∀ b o u,H b=some (.Kw o u)->H' b=some (.Kw o u)
 Bl:∀ b ps,H b=some (.Xf ps)->∃ more,H' b=some (.Xf (ps++more))
section
variable{fs fs' ex ex':List Addr}{H H1 H2:Hp}{h h1 h2 h':Heap}{a x e:Addr}{o:HO}
theorem Un.any(u:Un fs ex H H1 h h1){b:Addr}{ob:Obj}(q:h.get? b=some ob)(n:H b=none)(hx:b ∉ ex):∃ sl,h1.get? b=some { ob with slots:=sl }:=by
 by_cases hb:b∈fs
 ·exact u.slot b ob q n hb hx
 ·exact⟨ob.slots,u.keep b ob q n hb hx⟩
theorem Un.kept(k:∀ b u,h.get? b=some u->h'.get? b=some u):Un fs ex H H h h':=
 ⟨fun b ob q _ _ _=>k b ob q,fun b ob q _ _ _=>⟨ob.slots,k b ob q⟩,fun _ _ _ n _=>n,fun b ob q _=>⟨ob,k b ob q⟩,fun _ _ q=>q,fun _ _ _ q=>q,fun _ ps q=>⟨#[],by rw[q];simp⟩⟩
theorem Un.refl:Un fs ex H H h h:=Un.kept fun _ _ q=>q
theorem Un.laid(k:∀ b u,h.get? b=some u->h'.get? b=some u)(hp:h.objs.size<=a)(hn:H a=none):Un fs ex H (upd H a o) h h' where
 keep:=fun b u q _ _ _=>k b u q
 slot:=fun b u q _ _ _=>⟨u.slots,k b u q⟩
 free:=fun b u q n _=>by rw[zQ (Nat.ne_of_lt (Nat.lt_of_lt_of_le (Heap.lt_size q) hp))];exact n
 there:=fun b u q _=>⟨u,k b u q⟩
 tups:=fun b xs q=>by rw[zQ (zM q hn)];exact q
 yw:=fun b u xs q=>by rw[zQ (zM q hn)];exact q
 Bl:=fun b ps q=>⟨#[],by rw[zQ (zM q hn),q];simp⟩
theorem Un.write(mu:Mut (H x))(he:e=x ∨ H e=some (.own x))(k:∀ b u,b ≠ e->h.get? b=some u->h'.get? b=some u)(heo:∃ u,h'.get? e=some u):Un fs ex H (upd H x o) h h':=by
 have hx:∀ b,H b=none->b ≠ x:=fun b n z=>by subst z;rw[n]at mu;exact mu
 have hb:∀ b,H b=none->b ≠ e:=fun b n z=>by
  subst z
  rcases he with r | r
  ·exact hx b n r
  ·rw[n]at r;cases r
 have hm:∀ b u,H b=some u->¬ Mut (some u)->b ≠ x:=fun b u q nm z=>by subst z;rw[q]at mu;exact nm mu
 refine⟨fun b u q n _ _=>k b u (hb b n) q,fun b u q n _ _=>⟨u.slots,k b u (hb b n) q⟩,fun b u q n _=>by rw[zQ (hx b n)];exact n,fun b u q _=>?_,
  fun b xs q=>by rw[zQ (hm b _ q fun z=>z)];exact q,fun b u xs q=>by rw[zQ (hm b _ q fun z=>z)];exact q,fun b ps q=>⟨#[],by rw[zQ (hm b _ q fun z=>z),q];simp⟩⟩
 by_cases hbe:b=e
 ·subst hbe;exact heo
 ·exact⟨u,k b u hbe q⟩
end
def trk(h:Heap)(H:Hp):List Addr:=(List.range h.objs.size).filter fun a=>(H a).isSome
def Cv(h:Heap)(H:Hp):Heap:=PySem.W.hideAll h (trk h H)
theorem O3(h:Heap)(H:Hp):(Cv h H).objs.size=h.objs.size:=PySem.W.hideAll_size _ _
theorem SJ{h:Heap}{H:Hp}{b:Addr}{o:Obj}(e:h.get? b=some o)(n:H b=none):(Cv h H).get? b=some o:=
 PySem.W.hideAll_get _ e fun hm=>by
  have q:(H b).isSome=true:=(dq.mp hm).2
  rw[n]at q;simp at q
theorem Vb{h:Heap}{H:Hp}{b:Addr}{o:Obj}(e:(Cv h H).get? b=some o):h.get? b=some o/\H b=none:=by
 have e':h.get? b=some o:=PySem.W.of_hideAll (trk h H) e
 refine⟨e',?_⟩
 cases q:H b with
 | none=>rfl
 | some x=>
  have hm:b∈trk h H:=List.mem_filter.mpr ⟨List.mem_range.mpr (Heap.lt_size e'),by simp [q]⟩
  have z:(Cv h H).get? b=none:=PySem.W.hideAll_none (trk h H) hm
  rw[z]at e;cases e
def WL(g h:Heap)(L:Addr):List (Addr × Obj):=(List.range h.objs.size).filterMap fun a=>if a=L ∨ (g.get? a).isSome=true then none else (h.get? a).map fun o=>(a,o)
def rest(g h:Heap)(L d:Addr):List (Addr × Obj):=(WL g h L).filter fun p=>decide (p.1 ≠ d)
structure Mod(K:PySem.W.Frag)(mg:Str->Option Value)(base:Heap):Prop where
 UJ:K.In base
 glob:base.Ns mainGlobals mg
 blt:∃ mb,base.Ns builtinsNs mb/\∀ x:Str,x ≠ "__name__" -> mb x=bootBuiltins x
 nolimit:base.NoLimit
structure Cx where
 prog:Program
 w:World
 K:PySem.W.Frag
 mg:Str->Option Value
 base:Heap
 A:Around
 N:List Str
 s₀:Shared
 H₀:Hp
 env:Env
 outer:List Env
 stack:List Env
 ex:List Addr
 fn:Str->Bool
 calm:Bool
 pn:List (Addr × Obj)
 xe:Value->Shared->Prop
def frs(l:List Env):List Addr:=l.filterMap (·.frame)
abbrev Cx.fs(X:Cx):List Addr:=frs X.outer
def Vis(sc:Scope)(x:Str):Prop:=sc.names.lookup x=some .local ∨ sc.names.lookup x=some .cell ∨ sc.names.lookup x=some .free
def Loc(sc:Scope)(x:Str):Prop:=sc.names.lookup x=some .local ∨ sc.names.lookup x=some .cell
def Look(env:Env)(h:Heap)(m:Str->Option Value)(x:Str)(u:Value):Prop:=
 (env.kindOf x=some .local/\m x=some u) ∨ ((env.kindOf x=some .cell ∨ env.kindOf x=some .free)/\∃ c,env.cells.lookup x=some c/\h.IsCell c (some u))
structure Cx.Ok(X:Cx):Prop where
 mod:Mod X.K X.mg X.base
 kind:X.env.scope.kind = .function
 glob:X.env.globals=mainGlobals
 blt:X.env.builtins=builtinsNs
 above:X.s₀.heap.objs.size<=X.env.locals
 inj:∀ x y c,X.env.cells.lookup x=some c->X.env.cells.lookup y=some c->x=y
 has:∀ x,(X.env.kindOf x=some .cell ∨ X.env.kindOf x=some .free)->∃ c,X.env.cells.lookup x=some c
 cab:∀ x c,X.fn x=true->X.env.cells.lookup x=some c->X.s₀.heap.objs.size<=c
 hd:X.calm=true->X.A.handled=none
 frames:X.A.frames=some X.stack
 stk:X.stack=X.outer ∨ (X.stack=X.env :: X.outer/\X.env.frame=some X.env.locals)
 exf:∀ b∈X.ex,b ≠ X.env.locals/\∀ x c,X.env.cells.lookup x=some c->c ≠ b
 bs:∀ b o,X.base.get? b=some o->X.s₀.heap.get? b=some o/\X.H₀ b=none
 W5:X.base.objs.size<=X.s₀.heap.objs.size
 RJ:∀ b o,X.base.get? b=some o->b ∉ X.ex
 Vw:∀ b∈X.ex,b ∉ X.fs
 vI:X.s₀.heap.FunFrames X.base X.outer
 Z1:∀ b∈X.fs,X.H₀ b=none
structure Inv(X:Cx)(pins:List (Addr × Obj))(σ:List (Option V))(H:Hp)(s:Shared):Prop where
 ok:X.Ok
 os:s.os=X.s₀.os
 bare:AllBare s.gens
 base:Un X.fs X.ex X.H₀ H X.s₀.heap s.heap
 loc:∃ m,s.heap.Ns X.env.locals m/\∀(i:Nat)(x:Str)(v:V),X.N[i]? = some x->σ[i]? = some (some v)->Vis X.env.scope x->∃ u,RelV v u/\Look X.env s.heap m x u
 cell:∀ x c,X.env.cells.lookup x=some c->∃ v,s.heap.IsCell c v
 free:H X.env.locals=none
 pR:∀ x c,X.env.cells.lookup x=some c->H c=none
 pin:∀ p∈X.pn++pins,s.heap.get? p.1=some p.2/\H p.1=none/\p.1 ≠ X.env.locals/\p.1 ∉ X.fs/\∀ v,p.2.data ≠ .cell v
 hok:qW X.prog X.w H s.heap
 len:σ.length=X.N.length
section
variable{X:Cx}{pins:List (Addr × Obj)}{σ:List (Option V)}{H H':Hp}{s:Shared}{h':Heap}
theorem Cx.Ok.qD9(ok:X.Ok){b:Addr}{o:Obj}(e:X.base.get? b=some o):b ∉ X.fs:=fun hb=>by
 have:=(ok.vI.mem hb).1
 rw[e]at this;cases this
theorem Inv.bs(I:Inv X pins σ H s):∀ b o,X.base.get? b=some o->s.heap.get? b=some o/\H b=none:=fun b o e=>
 ⟨I.base.keep b o (I.ok.bs b o e).1 (I.ok.bs b o e).2 (I.ok.qD9 e) (I.ok.RJ b o e),I.base.free b o (I.ok.bs b o e).1 (I.ok.bs b o e).2 (I.ok.RJ b o e)⟩
theorem Inv.bk(I:Inv X pins σ H s):∀ b o,X.base.get? b=some o->s.heap.get? b=some o:=fun b o e=>(I.bs b o e).1
theorem Inv.mod(I:Inv X pins σ H s):Mod X.K X.mg X.base:=I.ok.mod
theorem Inv.vC(I:Inv X pins σ H s):X.K.In s.heap:=I.ok.mod.UJ.keeps I.bk
theorem Inv.lt(I:Inv X pins σ H s):X.env.locals < s.heap.objs.size:=let ⟨_,hn,_⟩:=I.loc;hn.lt
theorem Inv.sz(I:Inv X pins σ H s):X.s₀.heap.objs.size<=s.heap.objs.size:=Nat.le_trans I.ok.above (Nat.le_of_lt I.lt)
theorem Inv.qD8(I:Inv X pins σ H s){a:Addr}(h:s.heap.objs.size<=a):a ∉ X.fs:=fun hb=>by
 obtain⟨_,o,ho,_⟩:=I.ok.vI.mem hb
 exact absurd (Nat.lt_of_lt_of_le (Heap.lt_size ho) (Nat.le_trans I.sz h)) (Nat.lt_irrefl _)
theorem Inv.cne(I:Inv X pins σ H s):∀ x c,X.env.cells.lookup x=some c->c ≠ X.env.locals:=fun x c e z=>by
 obtain⟨v,o,ho,hd⟩:=I.cell x c e
 obtain⟨m,⟨o',es,ep,ho',hd',_⟩,_⟩:=I.loc
 rw[z,ho']at ho;cases ho;rw[hd']at hd;cases hd
theorem Inv.vI(I:Inv X pins σ H s):s.heap.FunFrames X.base X.outer:=by
 have all:∀(l:List Env),(∀ b∈frs l,b∈X.fs)->X.s₀.heap.FunFrames X.base l->s.heap.FunFrames X.base l:=by
  intro l
  induction l with
  | nil=>intro _ _;trivial
  | cons env r ih=>
   intro hs hl
   obtain⟨hk,⟨L,o,hf,hn,ho,hd⟩,hr⟩:=hl
   have hL:L∈X.fs:=hs L (by unfold frs;rw[List.filterMap_cons,hf];exact List.mem_cons_self)
   obtain⟨sl,e⟩:=I.base.slot L o ho (I.ok.Z1 L hL) hL fun z=>I.ok.Vw L z hL
   exact⟨hk,⟨L,_,hf,hn,e,hd⟩,ih (fun b hb=>hs b (by unfold frs;rw[List.filterMap_cons,hf];exact List.mem_cons_of_mem _ hb)) hr⟩
 exact all X.outer (fun _ hb=>hb) I.ok.vI
theorem Inv.stack(I:Inv X pins σ H s):s.heap.FunFrames X.base X.stack:=by
 rcases I.ok.stk with e | ⟨e,hf⟩
 ·rw[e];exact I.vI
 ·rw[e]
  obtain⟨m,hn,_⟩:=I.loc
  refine .cons (by rw[I.ok.kind];decide) hf hn ?_ I.vI
  exact Heap.get?_none_of_le (Nat.le_trans I.ok.W5 I.ok.above)
theorem Inv.HD(I:Inv X pins σ H s):∀ b∈frs X.stack,b∈X.env.locals :: X.fs:=fun b hb=>by
 rcases I.ok.stk with e | ⟨e,hf⟩
 ·rw[e]at hb;exact List.mem_cons_of_mem _ hb
 ·rw[e]at hb
  unfold frs at hb
  rw[List.filterMap_cons,hf]at hb
  exact hb
theorem Inv.Jq(I:Inv X pins σ H s):∀ b∈frs X.stack,H b=none:=fun b hb=>by
 rcases dG.mp (I.HD b hb) with e | hb
 ·rw[e];exact I.free
 ·obtain⟨_,o,ho,_⟩:=I.ok.vI.mem hb
  exact I.base.free b o ho (I.ok.Z1 b hb) fun z=>I.ok.Vw b z hb
theorem Inv.step{g':Array GenState}{t':Nat}{d':Drawn}{ch:List Addr}(I:Inv X pins σ H s)
  (hch:∀ b∈ch,(b∈X.ex ∨ X.s₀.heap.objs.size<=b)/\b ≠ X.env.locals/\(∀ x c,X.env.cells.lookup x=some c->c ≠ b)/\∀ p∈X.pn++pins,p.1 ≠ b)
  (keep:∀ b o,b ≠ X.env.locals->b ∉ X.fs->b ∉ ch->s.heap.get? b=some o->H b=none->h'.get? b=some o)
  (slot:∀ b o,b ≠ X.env.locals->b∈X.fs->b ∉ ch->s.heap.get? b=some o->H b=none->∃ sl,h'.get? b=some { o with slots:=sl }) (free:∀ b o,b ∉ ch->s.heap.get? b=some o->H b=none->H' b=none)
  (there:∀ b o,b ∉ ch->s.heap.get? b=some o->∃ o',h'.get? b=some o')
  (tups:∀ b xs,H b=some (.tup xs)->H' b=some (.tup xs)) (yw:∀ b o u,H b=some (.Kw o u)->H' b=some (.Kw o u)) (Bl:∀ b ps,H b=some (.Xf ps)->∃ more,H' b=some (.Xf (ps++more)))
  (ns:∀ m,s.heap.Ns X.env.locals m->h'.Ns X.env.locals m) (hok:qW X.prog X.w H' h') (hg:AllBare g') :
  Inv X pins σ H' { s with heap:=h',gens:=g',drawn:=d',toks:=t' }:=by
 have neL:∀ b o,X.s₀.heap.get? b=some o->b ≠ X.env.locals:=fun b o e=>Nat.ne_of_lt (Nat.lt_of_lt_of_le (Heap.lt_size e) I.ok.above)
 have neC:∀ b o,X.s₀.heap.get? b=some o->b ∉ X.ex->b ∉ ch:=fun b o e hx hb=>by
  rcases (hch b hb).1 with z | z
  ·exact hx z
  ·exact absurd (Nat.lt_of_lt_of_le (Heap.lt_size e) z) (Nat.lt_irrefl _)
 have cellK:∀ x c,X.env.cells.lookup x=some c->∀ v,s.heap.IsCell c v->h'.IsCell c v:=fun x c e v ⟨o,ho,hd⟩=>by
  have RN:c ∉ ch:=fun z=>(hch c z).2.2.1 x c e rfl
  by_cases hc:c∈X.fs
  ·obtain⟨sl,q⟩:=slot c o (I.cne x c e) hc RN ho (I.pR x c e)
   exact⟨_,q,hd⟩
  ·exact⟨o,keep c o (I.cne x c e) hc RN ho (I.pR x c e),hd⟩
 refine⟨I.ok,I.os,hg,⟨fun b o e n hb hx=>?_,fun b o e n hb hx=>?_,fun b o e n hx=>?_,fun b o e hx=>?_,fun b xs e=>tups b xs (I.base.tups b xs e),fun b o xs e=>yw b o xs (I.base.yw b o xs e),fun b ps e=>?_⟩,?_,fun x c e=>?_,?_,fun x c e=>?_,fun p hp=>?_,hok,I.len⟩
 ·exact keep b o (neL b o e) hb (neC b o e hx) (I.base.keep b o e n hb hx) (I.base.free b o e n hx)
 ·obtain⟨sl,e1⟩:=I.base.slot b o e n hb hx
  obtain⟨sl',e2⟩:=slot b _ (neL b o e) hb (neC b o e hx) e1 (I.base.free b o e n hx)
  exact⟨sl',e2⟩
 ·obtain⟨o',e1⟩:=I.base.there b o e hx
  exact free b o' (neC b o e hx) e1 (I.base.free b o e n hx)
 ·obtain⟨o',e1⟩:=I.base.there b o e hx
  exact there b o' (neC b o e hx) e1
 ·obtain⟨m1,e1⟩:=I.base.Bl b ps e
  obtain⟨m2,e2⟩:=Bl b _ e1
  exact⟨m1++m2,by rw[e2,Array.append_assoc]⟩
 ·obtain⟨m,hn,hl⟩:=I.loc
  refine⟨m,ns m hn,fun i x v e1 e2 e3=>?_⟩
  obtain⟨u,r,l⟩:=hl i x v e1 e2 e3
  refine⟨u,r,?_⟩
  rcases l with l | ⟨k,c,e,z⟩
  ·exact .inl l
  ·exact .inr ⟨k,c,e,cellK x c e _ z⟩
 ·obtain⟨v,z⟩:=I.cell x c e
  exact⟨v,cellK x c e v z⟩
 ·obtain⟨m,⟨o,_,_,ho,_⟩,_⟩:=I.loc
  exact free _ o (fun z=>(hch _ z).2.1 rfl) ho I.free
 ·obtain⟨v,o,ho,hd⟩:=I.cell x c e
  exact free c o (fun z=>(hch c z).2.2.1 x c e rfl) ho (I.pR x c e)
 ·obtain⟨e,n,ne,nf,d⟩:=I.pin p hp
  have RN:p.1 ∉ ch:=fun z=>(hch p.1 z).2.2.2 p hp rfl
  exact⟨keep p.1 p.2 ne nf RN e n,free p.1 p.2 RN e n,ne,nf,d⟩
theorem Inv.un{t':Nat}(I:Inv X pins σ H s)(u:Un X.fs [] H H' s.heap h')(hok:qW X.prog X.w H' h'):Inv X pins σ H' { s with heap:=h',toks:=t' }:=by
 obtain⟨m,⟨o,es,ep,ho,r⟩,_⟩:=id I.loc
 obtain⟨sl,hL⟩:=u.any ho I.free (by simp)
 exact I.step (g':=s.gens) (d':=s.drawn) (ch:=[]) (fun _ z=>nomatch z) (fun b o _ hb _ e n=>u.keep b o e n hb (by simp)) (fun b o _ hb _ e n=>u.slot b o e n hb (by simp)) (fun b o _ e n=>u.free b o e n (by simp)) (fun b o _ e=>u.there b o e (by simp)) u.tups u.yw u.Bl (fun m' hm=>by
  obtain⟨o',es',ep',ho',r'⟩:=hm
  rw[ho]at ho';cases ho'
  exact⟨_,es',ep',hL,r'⟩) hok I.bare
theorem Inv.call{g':Array GenState}{t':Nat}{d':Drawn}{ch:List Addr}(I:Inv X pins σ H s)(u:Un (frs X.stack) ch H H' s.heap h')(hok:qW X.prog X.w H' h')(hg:AllBare g')
  (hch:∀ b∈ch,(b∈X.ex ∨ X.s₀.heap.objs.size<=b)/\b ≠ X.env.locals/\(∀ x c,X.env.cells.lookup x=some c->c ≠ b)/\∀ p∈X.pn++pins,p.1 ≠ b) :
  Inv X pins σ H' { s with heap:=h',gens:=g',drawn:=d',toks:=t' }:=by
 obtain⟨m,⟨o,es,ep,ho,r⟩,_⟩:=id I.loc
 obtain⟨sl,hL⟩:=u.any ho I.free fun z=>(hch _ z).2.1 rfl
 exact I.step (ch:=ch) hch (fun b o hL hb hc e n=>u.keep b o e n (fun z=>(dG.mp (I.HD b z)).elim hL hb) hc) (fun b o _ _ hc e n=>u.any e n hc) (fun b o hc e n=>u.free b o e n hc) (fun b o hc e=>u.there b o e hc) u.tups u.yw u.Bl (fun m' hm=>by
  obtain⟨o',es',ep',ho',r'⟩:=hm
  rw[ho]at ho';cases ho'
  exact⟨_,es',ep',hL,r'⟩) hok hg
theorem Inv.turned{t':Nat}{it:Addr}(I:Inv X pins σ H s)(k:∀ b o,b ≠ it->s.heap.get? b=some o->h'.get? b=some o)(hn:H it=none)(hL:it ≠ X.env.locals)
  (h1:it∈X.ex ∨ X.s₀.heap.objs.size<=it) (h2:∀ x c,X.env.cells.lookup x=some c->c ≠ it) (h3:∀ p∈X.pn++pins,p.1 ≠ it):Inv X pins σ H { s with heap:=h',toks:=t' }:=by
 have nit:∀ b u,H b=some u->b ≠ it:=fun b u e z=>by rw[z,hn]at e;cases e
 refine I.step (g':=s.gens) (d':=s.drawn) (ch:=[it]) (fun b hb=>?_) (fun b o _ _ hc e _=>k b o (fun z=>hc (by simp [z])) e) (fun b o _ _ hc e _=>⟨o.slots,k b o (fun z=>hc (by simp [z])) e⟩) (fun _ _ _ _ n=>n)
  (fun b o hc e=>⟨o,k b o (fun z=>hc (by simp [z])) e⟩) (fun _ _ e=>e) (fun _ _ _ e=>e) (fun b ps e=>⟨#[],by rw[e];simp⟩) (fun m hm=>?_) (fun b u e=>?_) I.bare
 ·have e:b=it:=by simpa using hb
  subst e
  exact⟨h1,hL,h2,h3⟩
 ·obtain⟨o,es,ep,ho,r⟩:=hm
  exact⟨o,es,ep,k _ o (Ne.symm hL) ho,r⟩
 ·refine (I.hok b u e).stay (fun c v hc q=>k c v ?_ q) (fun _ q=>q) fun _ _ q=>q
  rcases hc with z | z
  ·rw[z];exact nit b u e
  ·exact nit c _ z
theorem Inv.tok(I:Inv X pins σ H s)(t:Nat):Inv X pins σ H { s with toks:=t }:=I.un (h':=s.heap) (t':=t) Un.refl I.hok
theorem Inv.kept{t':Nat}(I:Inv X pins σ H s)(k:∀ b u,s.heap.get? b=some u->h'.get? b=some u):Inv X pins σ H { s with heap:=h',toks:=t' }:=I.un (Un.kept k) (I.hok.kept k)
theorem Inv.laid{a:Addr}{o:HO}{t':Nat}(I:Inv X pins σ H s)(k:∀ b u,s.heap.get? b=some u->h'.get? b=some u)(hp:s.heap.objs.size<=a)(new:cV X.prog X.w (upd H a o) h' a o) :
  Inv X pins σ (upd H a o) { s with heap:=h',toks:=t' }:=I.un (Un.laid k hp (I.hok.fresh hp)) (I.hok.laid k hp new)
theorem Inv.write{x e:Addr}{o:HO}{t':Nat}(I:Inv X pins σ H s)(mu:Mut (H x))(he:e=x ∨ H e=some (.own x))(k:∀ b u,b ≠ e->s.heap.get? b=some u->h'.get? b=some u)(heo:∃ u,h'.get? e=some u)
  (new:cV X.prog X.w (upd H x o) h' x o):Inv X pins σ (upd H x o) { s with heap:=h',toks:=t' }:=I.un (Un.write mu he k heo) (I.hok.write mu he k heo new)
theorem Inv.sO{Ws:List (Addr × Obj)}(I:Inv X pins σ H s)(h:∀ p∈Ws,s.heap.get? p.1=some p.2/\H p.1=none/\p.1 ≠ X.env.locals/\p.1 ∉ X.fs/\∀ v,p.2.data ≠ .cell v):Inv X Ws σ H s:=
 ⟨I.ok,I.os,I.bare,I.base,I.loc,I.cell,I.free,I.pR,fun p hp=>(cX.mp hp).elim (fun z=>I.pin p (List.mem_append_left _ z)) (h p),I.hok,I.len⟩
theorem FZ{N:List Str}(hN:N.Nodup){i j:Nat}{x:Str}(a:N[i]? = some x)(b:N[j]? = some x):i=j:=by
 obtain⟨h1,e1⟩:=yZ.mp a
 obtain⟨h2,e2⟩:=yZ.mp b
 exact (List.getElem_inj hN).mp (e1.trans e2.symm)
theorem zg{M:Model}{A:Around}{E:Value->Shared->Prop}{i:Nat}{x:Str}{v:V}{u:Value}{Q:Unit->Shared->Prop}(I:Inv X pins σ H s)(hN:X.N.Nodup)(hi:X.N[i]? = some x)(hx:Loc X.env.scope x)(r:RelV v u)
  (h:∀ s',Inv X pins (σ.set i (some v)) H s'->(∃ a,Heap.SameBut a s.heap s'.heap/\(a=X.env.locals ∨ X.env.cells.lookup x=some a))->Q () s') (hf:X.fn x=true ∨ X.env.scope.names.lookup x=some .local:=by first | exact .inl rfl | exact .inr rfl | assumption):wpAny M A (storeName X.env x u) Q E s:=by
 obtain⟨m,hn,hl⟩:=id I.loc
 have hcls:(X.env.scope.kind == .class || (X.env.scope.kind == .module && X.env.locals != X.env.globals))=false:=by rw[I.ok.kind];rfl
 have hiσ:i < σ.length:=by rw[I.len];exact (yZ.mp hi).1
 have cne:=I.cne
 have tracked:∀ {a:Addr} {h':Heap},(∃ o,s.heap.get? a=some o/\H a=none)->Heap.SameBut a s.heap h'->qW X.prog X.w H h':=fun {a h'} ha hs b ob e=>by
  obtain⟨_,_,hfree⟩:=ha
  refine (I.hok b ob e).stay (fun c w' hc q=>(hs.2 c ?_).trans q) (fun _ q=>q) fun _ _ q=>q
  rintro rfl
  rcases hc with rfl | hc
  ·rw[hfree]at e;cases e
  ·rw[hfree]at hc;cases hc
 rcases hx with hk | hk
 ·refine wpAny_storeName_local hk hn (fun h' hn' hs=>?_) hcls
  obtain⟨oL,_,_,hoL,_⟩:=id hn
  refine h _ ⟨I.ok,I.os,I.bare,⟨fun b o e n hb hx=>?_,fun b o e n hb hx=>?_,I.base.free,fun b o e hx=>?_,I.base.tups,I.base.yw,I.base.Bl⟩,⟨_,hn',fun j y v' e1 e2 e3=>?_⟩,fun y c e=>?_,I.free,I.pR,fun p hp=>?_,tracked ⟨oL,hoL,I.free⟩ hs,by simpa using I.len⟩ ⟨_,hs,.inl rfl⟩
  ·exact (hs.2 b (Nat.ne_of_lt (Nat.lt_of_lt_of_le (Heap.lt_size e) I.ok.above))).trans (I.base.keep b o e n hb hx)
  ·obtain⟨sl,e1⟩:=I.base.slot b o e n hb hx
   exact⟨sl,(hs.2 b (Nat.ne_of_lt (Nat.lt_of_lt_of_le (Heap.lt_size e) I.ok.above))).trans e1⟩
  ·obtain⟨o',e1⟩:=I.base.there b o e hx
   exact⟨o',(hs.2 b (Nat.ne_of_lt (Nat.lt_of_lt_of_le (Heap.lt_size e) I.ok.above))).trans e1⟩
  ·by_cases hj:j=i
   ·subst hj
    rw[hi]at e1;cases e1
    rw[List.getElem?_set_self hiσ]at e2
    cases e2
    exact⟨u,r,.inl ⟨hk,by simp⟩⟩
   ·rw[List.getElem?_set_ne (Ne.symm hj)]at e2
    obtain⟨u',r',q⟩:=hl j y v' e1 e2 e3
    refine⟨u',r',?_⟩
    rcases q with ⟨k,e⟩ | ⟨k,c,e,z⟩
    ·refine .inl ⟨k,?_⟩
     have:y ≠ x:=fun e=>hj (FZ hN e1 (e ▸ hi))
     simp [this,e]
    ·exact .inr ⟨k,c,e,z.sameBut hs (cne y c e)⟩
  ·obtain⟨w',z⟩:=I.cell y c e
   exact⟨w',z.sameBut hs (cne y c e)⟩
  ·obtain⟨e,n,ne,nf,d⟩:=I.pin p hp
   exact⟨(hs.2 p.1 ne).trans e,n,ne,nf,d⟩
 ·have hfn:X.fn x=true:=by
   rcases hf with z | z
   ·exact z
   ·rw[z]at hk;cases hk
  obtain⟨c,hc⟩:=I.ok.has x (.inl hk)
  obtain⟨w',z⟩:=I.cell x c hc
  refine wpAny_storeName_cell I.ok.kind hk hc z (fun h' hc' hs=>?_)
  obtain⟨oc,hoc,qDZ⟩:=id z
  refine h { s with heap:=h' } ⟨I.ok,I.os,I.bare,⟨fun b o e n hb hx=>?_,fun b o e n hb hx=>?_,I.base.free,fun b o e hx=>?_,I.base.tups,I.base.yw,I.base.Bl⟩,⟨m,hn.sameBut hs (Ne.symm (cne x c hc)),fun j y v' e1 e2 e3=>?_⟩,fun y c' e=>?_,I.free,I.pR,fun p hp=>?_,tracked ⟨oc,hoc,I.pR x c hc⟩ hs,by simpa using I.len⟩ ⟨c,hs,.inr hc⟩
  ·exact (hs.2 b (Nat.ne_of_lt (Nat.lt_of_lt_of_le (Heap.lt_size e) (I.ok.cab x c hfn hc)))).trans (I.base.keep b o e n hb hx)
  ·obtain⟨sl,e1⟩:=I.base.slot b o e n hb hx
   exact⟨sl,(hs.2 b (Nat.ne_of_lt (Nat.lt_of_lt_of_le (Heap.lt_size e) (I.ok.cab x c hfn hc)))).trans e1⟩
  ·obtain⟨o',e1⟩:=I.base.there b o e hx
   exact⟨o',(hs.2 b (Nat.ne_of_lt (Nat.lt_of_lt_of_le (Heap.lt_size e) (I.ok.cab x c hfn hc)))).trans e1⟩
  ·by_cases hj:j=i
   ·subst hj
    rw[hi]at e1;cases e1
    rw[List.getElem?_set_self hiσ]at e2
    cases e2
    exact⟨u,r,.inr ⟨.inl hk,c,hc,hc'⟩⟩
   ·rw[List.getElem?_set_ne (Ne.symm hj)]at e2
    obtain⟨u',r',q⟩:=hl j y v' e1 e2 e3
    refine⟨u',r',?_⟩
    rcases q with q | ⟨k,c',e,z'⟩
    ·exact .inl q
    ·refine .inr ⟨k,c',e,z'.sameBut hs ?_⟩
     rintro rfl
     exact hj (FZ hN e1 (I.ok.inj _ _ _ e hc ▸ hi))
  ·by_cases hcc:c'=c
   ·subst hcc;exact⟨_,hc'⟩
   ·obtain⟨w2,z2⟩:=I.cell y c' e
    exact⟨w2,z2.sameBut hs hcc⟩
  ·obtain⟨e,n,ne,nf,d⟩:=I.pin p hp
   refine⟨(hs.2 p.1 ?_).trans e,n,ne,nf,d⟩
   intro q
   rw[q,hoc]at e
   have q':oc=p.2:=oN e
   exact d w' (by rw[<-q'];exact qDZ)
theorem rG{M:Model}{A:Around}{E:Value->Shared->Prop}{i:Nat}{x:Str}{v:V}{u:Value}{Q:Unit->Shared->Prop}(I:Inv X pins σ H s)(hN:X.N.Nodup)(hi:X.N[i]? = some x)(hx:Loc X.env.scope x)(r:RelV v u)
  (h:∀ s',Inv X pins (σ.set i (some v)) H s'->Q () s') (hf:X.fn x=true ∨ X.env.scope.names.lookup x=some .local:=by first | exact .inl rfl | exact .inr rfl | assumption):wpAny M A (storeName X.env x u) Q E s:=
 zg I hN hi hx r (fun s' I' _=>h s' I') hf
theorem Inv.call'{s':Shared}{ch:List Addr}(I:Inv X pins σ H s)(ho:s'.os=s.os)(u:Un (frs X.stack) ch H H' s.heap s'.heap)(hok:qW X.prog X.w H' s'.heap)(hg:AllBare s'.gens)
  (hch:∀ b∈ch,(b∈X.ex ∨ X.s₀.heap.objs.size<=b)/\b ≠ X.env.locals/\(∀ x c,X.env.cells.lookup x=some c->c ≠ b)/\∀ p∈X.pn++pins,p.1 ≠ b):Inv X pins σ H' s':=by
 obtain⟨h',g',d',t',o'⟩:=s'
 have e:o'=s.os:=ho
 subst e
 exact I.call (g':=g') (t':=t') (d':=d') u hok hg hch
end
abbrev XK:=Value->Option Addr->Hp->Prop
abbrev St:=List (Option V)
abbrev VK:=V->Hp->Prop
abbrev TE:=St->Hp->VK->Prop
abbrev TT:=St->Hp->(Bool->Hp->Prop)->Prop
abbrev TA:=St->Hp->(List V->Hp->Prop)->Prop
structure Ends where
 nx:St->Hp->Prop
 rt:VK
 bk:St->Hp->Prop:=fun _ _=>False
 ct:St->Hp->Prop:=fun _ _=>False
abbrev TS:=Ends->St->Hp->Prop
def EP(X:Cx)(pins:List (Addr × Obj))(σ:St)(Q:VK)(u:Value)(s':Shared):Prop:=∃ v H',Inv X pins σ H' s'/\RelV v u/\Q v H'
def TP(X:Cx)(pins:List (Addr × Obj))(σ:St)(Q:Bool->Hp->Prop)(b:Bool)(s':Shared):Prop:=∃ H',Inv X pins σ H' s'/\Q b H'
def AP(X:Cx)(pins:List (Addr × Obj))(σ:St)(Q:List V->Hp->Prop)(us:List Value)(s':Shared):Prop:=∃ vs H',Inv X pins σ H' s'/\Vals vs us/\Q vs H'
def SP(X:Cx)(pins:List (Addr × Obj))(D:Ends)(f:Flow)(s':Shared):Prop:=
 match f with
 | .next => ∃ σ' H',Inv X pins σ' H' s'/\D.nx σ' H'
 | .brk => ∃ σ' H',Inv X pins σ' H' s'/\D.bk σ' H'
 | .cont => ∃ σ' H',Inv X pins σ' H' s'/\D.ct σ' H'
 | .ret u => ∃ v σ' H',Inv X pins σ' H' s'/\RelV v u/\D.rt v H'
def PE(X:Cx)(e:Expr)(t:TE):Prop:=
 ∀(pins:List (Addr × Obj))(s:Shared)(σ:St)(H:Hp)(Q:VK),Inv X pins σ H s->t σ H Q->wpAny (model X.prog X.w) X.A (eval e X.env) (EP X pins σ Q) X.xe s
def PT(X:Cx)(e:Expr)(t:TT):Prop:=
 ∀(pins:List (Addr × Obj))(s:Shared)(σ:St)(H:Hp)(Q:Bool->Hp->Prop),Inv X pins σ H s->t σ H Q->wpAny (model X.prog X.w) X.A (isTrue e X.env (eval e X.env)) (TP X pins σ Q) X.xe s
def PW(X:Cx)(e:Expr)(t:TT):Prop:=
 ∀(whole:Sem Value)(pins:List (Addr × Obj))(s:Shared)(σ:St)(H:Hp)(Q:Bool->Hp->Prop),Inv X pins σ H s->t σ H Q->wpAny (model X.prog X.w) X.A (isTrue e X.env whole) (TP X pins σ Q) X.xe s
theorem PW.pt{X:Cx}{e:Expr}{t:TT}(h:PW X e t):PT X e t:=h _
def PA(X:Cx)(es:List Expr)(t:TA):Prop:=
 ∀(pos:Pos)(pins:List (Addr × Obj))(s:Shared)(σ:St)(H:Hp)(Q:List V->Hp->Prop),Inv X pins σ H s->t σ H Q->wpAny (model X.prog X.w) X.A (spliced (backTo pos (starEach es X.env))) (AP X pins σ Q) X.xe s
def PS(X:Cx)(st:Stmt)(t:TS):Prop:=
 ∀(pins:List (Addr × Obj))(s:Shared)(σ:St)(H:Hp)(D:Ends),Inv X pins σ H s->t D σ H->wpAny (model X.prog X.w) X.A (exec st X.env) (SP X pins D) X.xe s
def Gi(X:Cx)(st:List Stmt)(t:TS):Prop:=
 ∀(pins:List (Addr × Obj))(s:Shared)(σ:St)(H:Hp)(D:Ends),Inv X pins σ H s->t D σ H->wpAny (model X.prog X.w) X.A (execs st X.env) (SP X pins D) X.xe s
theorem cA{α:Type}{t:Sem α}{Q Q':α->Shared->Prop}{M:Model}{A:Around}{E:Value->Shared->Prop}{s:Shared}(h:wpAny M A t Q E s)(hQ:∀ a s,Q a s->Q' a s):wpAny M A t Q' E s:=wpAny_mono h hQ fun _ _ x=>x
section
variable{X:Cx}
def qAK(i:Nat):TE:=fun σ H Q => ∃ v,σ[i]? = some (some v)/\Q v H
def tC(v:V):TE:=fun _ H Q=>Q v H
theorem Y6{i:Nat}{x:Str}{pos:Pos}(hN:X.N[i]? = some x)(hv:Vis X.env.scope x)(hd:(x == ("__debug__" : Str))=false:=by decide)(hcd:(x == ("__classdict__" : Str))=false:=by decide):PE X (.Name x pos) (qAK i):=by
 intro pins s σ H Q I h
 obtain⟨v,e,h⟩:=h
 obtain⟨m,hn,hl⟩:=I.loc
 obtain⟨u,r,l⟩:=hl i x v hN e hv
 have fin:EP X pins σ Q u s:=⟨v,H,I,r,h⟩
 rcases l with ⟨hk,hm⟩ | ⟨hk,c,hc,hcell⟩
 ·exact wpAny_Name (wpAny_loadName_local I.ok.kind hk hn hm fin) hd
 ·rcases hk with hk | hk
  ·exact wpAny_Name (wpAny_loadName_cell I.ok.kind hk hc hcell fin) hd
  ·exact wpAny_Name (wpAny_loadName_free I.ok.kind hk hc hcell fin hcd) hd
theorem zB {i j pos}:PE X (.Constant (.int i) j pos) (tC (.int i)):=fun _ _ _ H _ I h=>wpAny_Constant_int ⟨.int i,H,I.tok _,⟨_,rfl⟩,h⟩
theorem gU {b j pos}:PE X (.Constant (.bool b) j pos) (tC (.bl b)):=fun _ _ _ H _ I h=>Constant_bool ⟨.bl b,H,I,rfl,h⟩
theorem fV {j pos}:PE X (.Constant .none j pos) (tC .non):=fun _ _ _ H _ I h=>Constant_none ⟨.non,H,I,rfl,h⟩
theorem zP {x j pos}:PE X (.Constant (.str x) j pos) (tC (.str x)):=fun _ _ _ H _ I h=>Calls.Constant_str ⟨.str x,H,I.tok _,⟨_,rfl⟩,h⟩
def Gl(X:Cx)(x:Str):Prop:=X.env.kindOf x=some .globalImplicit
theorem Kl{E:Value->Shared->Prop}{pins:List (Addr × Obj)}{s:Shared}{σ:St}{H:Hp}{x:Str}{u:Value}{pos:Pos}{Q:Value->Shared->Prop}(I:Inv X pins σ H s)(hg:Gl X x)(hm:X.mg x=some u)(h:Q u s)
  (hd:(x == ("__debug__" : Str))=false:=by decide):wpAny (model X.prog X.w) X.A (eval (.Name x pos) X.env) Q E s:=
 Calls.Name_function_global I.ok.kind hg (Calls.loadGlobal_global (by rw[I.ok.glob];exact I.mod.glob.keeps I.bk) hm h) hd
theorem nU{E:Value->Shared->Prop}{pins:List (Addr × Obj)}{s:Shared}{σ:St}{H:Hp}{x:Str}{u:Value}{pos:Pos}{Q:Value->Shared->Prop}(I:Inv X pins σ H s)(hg:Gl X x)(hm:X.mg x=none)(hv:bootBuiltins x=some u)(h:Q u s)
  (hn:x ≠ "__name__" := by decide) (hd:(x == ("__debug__" : Str))=false:=by decide):wpAny (model X.prog X.w) X.A (eval (.Name x pos) X.env) Q E s:=by
 obtain⟨mb,h1,h2⟩:=I.mod.blt
 exact Calls.Name_function_global I.ok.kind hg (Calls.loadGlobal_builtin (by rw[I.ok.glob];exact I.mod.glob.keeps I.bk) hm (by rw[I.ok.blt];exact h1.keeps I.bk) ((h2 x hn).trans hv) h) hd
theorem jE{x:Str}{v:V}{u:Value}{pos:Pos}(hg:Gl X x)(hm:X.mg x=none)(hv:bootBuiltins x=some u)(r:RelV v u)(hn:x ≠ "__name__" := by decide)(hd:(x == ("__debug__" : Str))=false:=by decide):PE X (.Name x pos) (tC v):=
 fun _ _ _ H _ I h=>nU I hg hm hv ⟨v,H,I,r,h⟩ hn hd
variable{a b:Expr}{ta tb:TE}{pos:Pos}
def PC(X:Cx)(op:CmpOp)(a b:Expr)(t:TE):Prop:=
 ∀(pins:List (Addr × Obj))(s:Shared)(σ:St)(H:Hp)(Q:VK),Inv X pins σ H s->t σ H Q →
  wpAny (model X.prog X.w) X.A (eval a X.env) (fun v s₁=>wpAny (model X.prog X.w) X.A (eval b X.env) (fun u s₂=>wpAny (model X.prog X.w) X.A (compareOp op v u) (EP X pins σ Q) X.xe s₂) X.xe s₁) X.xe s
def tB(t:TE):TT:=fun σ H Q=>t σ H fun x H1 => ∃ c,x = .bl c/\Q c H1
theorem Xy{op:CmpOp}{t:TE}(h:PC X op a b t)(h1:behindInMarks op b=false:=by first | exact nobehind _ (by decide) (by decide) | rfl):PT X (.Compare a [op] [b] pos) (tB t):=by
 intro pins s σ H Q I hw
 refine wpAny_isTrue_Compare1 (cA (h pins s σ H _ I hw) fun v s1 h1=>cA h1 fun u s2 h2=>cA h2 fun c s3 ⟨x,H1,I1,r1,q1⟩=>?_) h1
 obtain⟨d,rfl,q⟩:=q1
 cases r1
 exact wpAny_truthy_bool ⟨H1,I1,q⟩
theorem c7{e:Expr}{t:TE}(h:PE X e t)(he:∀ whole,isTrue e X.env whole=(do let v ← whole;standAt e.pos;holding [v] (truthy v)):=by intro _;rfl):PT X e (tB t):=by
 intro pins s σ H Q I hw
 refine isTrue_plain (cA (h pins s σ H _ I hw) fun v s1 ⟨x,H1,I1,r1,q1⟩=>?_) (he _)
 obtain⟨d,rfl,q⟩:=q1
 cases r1
 exact wpAny_truthy_bool ⟨H1,I1,q⟩
variable{tA tB':TT}{rest:List Expr}
def qCR(t u:TT):TT:=fun σ H Q=>t σ H fun c H1=>if c=true then u σ H1 Q else Q false H1
def tOr(t u:TT):TT:=fun σ H Q=>t σ H fun c H1=>if c=true then Q true H1 else u σ H1 Q
def qCL(t:TT):TT:=fun σ H Q=>t σ H fun c H1=>Q (!c) H1
theorem yP(ha:PT X a tA):PW X (.BoolOp .And [a] pos) tA:=by
 intro wh pins s σ H Q I h
 refine isTrue_and (cA (ha pins s σ H Q I h) fun c s1 e=>?_)
 cases c with
 | true=>exact isTrue_and_nil e
 | false=>exact e
theorem pw_or1(ha:PT X a tA):PW X (.BoolOp .Or [a] pos) tA:=by
 intro wh pins s σ H Q I h
 refine isTrue_or (cA (ha pins s σ H Q I h) fun c s1 e=>?_)
 cases c with
 | false=>exact isTrue_or_nil e
 | true=>exact e
theorem pw_and(ha:PT X a tA)(hb:PW X (.BoolOp .And (b :: rest) pos) tB'):PW X (.BoolOp .And (a :: b :: rest) pos) (qCR tA tB'):=by
 intro wh pins s σ H Q I h
 refine isTrue_and (cA (ha pins s σ H _ I h) fun c s1 ⟨H1,I1,q1⟩=>?_)
 cases c with
 | true=>exact hb wh pins s1 σ H1 Q I1 q1
 | false=>exact⟨H1,I1,q1⟩
theorem pw_or(ha:PT X a tA)(hb:PW X (.BoolOp .Or (b :: rest) pos) tB'):PW X (.BoolOp .Or (a :: b :: rest) pos) (tOr tA tB'):=by
 intro wh pins s σ H Q I h
 refine isTrue_or (cA (ha pins s σ H _ I h) fun c s1 ⟨H1,I1,q1⟩=>?_)
 cases c with
 | true=>exact⟨H1,I1,q1⟩
 | false=>exact hb wh pins s1 σ H1 Q I1 q1
theorem qz(ha:PT X a tA):PT X (.UnaryOp .Not a pos) (qCL tA):=by
 intro pins s σ H Q I h
 exact isTrue_not (ha pins s σ H (fun c H1=>Q (!c) H1) I h)
def qAZ(ta tb:TE):TE:=fun σ H Q=>ta σ H fun x H1 => ∃ c,x = .bl c/\if c=true then tb σ H1 Q else Q (.bl false) H1
def qCK(ta tb:TE):TE:=fun σ H Q=>ta σ H fun x H1 => ∃ c,x = .bl c/\if c=true then Q (.bl true) H1 else tb σ H1 Q
def qAN(ta:TE):TE:=fun σ H Q=>ta σ H fun x H1 => ∃ c,x = .bl c/\Q (.bl (!c)) H1
theorem uK {op} {t:TE} (h:PE X a t):PE X (.BoolOp op [a] pos) t:=fun pins s σ H Q I hw=>BoolOp_one (h pins s σ H Q I hw)
theorem wj(ha:PE X a ta)(hb:PE X (.BoolOp .And (b :: rest) pos) tb):PE X (.BoolOp .And (a :: b :: rest) pos) (qAZ ta tb):=by
 intro pins s σ H Q I h
 refine BoolOp_and (cA (ha pins s σ H _ I h) fun v s1 ⟨x,H1,I1,r1,q1⟩=>?_)
 obtain⟨c,rfl,q1⟩:=q1
 cases r1
 refine wpAny_truthy_bool ?_
 cases c with
 | true=>exact hb pins s1 σ H1 Q I1 q1
 | false=>exact⟨.bl false,H1,I1,rfl,q1⟩
theorem Wt(ha:PE X a ta)(hb:PE X (.BoolOp .Or (b :: rest) pos) tb):PE X (.BoolOp .Or (a :: b :: rest) pos) (qCK ta tb):=by
 intro pins s σ H Q I h
 refine BoolOp_or (cA (ha pins s σ H _ I h) fun v s1 ⟨x,H1,I1,r1,q1⟩=>?_)
 obtain⟨c,rfl,q1⟩:=q1
 cases r1
 refine wpAny_truthy_bool ?_
 cases c with
 | false=>exact hb pins s1 σ H1 Q I1 q1
 | true=>exact⟨.bl true,H1,I1,rfl,q1⟩
theorem Hh(ha:PE X a ta):PE X (.UnaryOp .Not a pos) (qAN ta):=by
 intro pins s σ H Q I h
 refine UnaryOp_ (cA (ha pins s σ H _ I h) fun v s1 ⟨x,H1,I1,r1,q1⟩=>?_)
 obtain⟨c,rfl,q1⟩:=q1
 cases r1
 exact not_of (wpAny_truthy_bool ⟨.bl (!c),H1,I1,rfl,q1⟩)
def tIf(t:TT)(ta tb:TE):TE:=fun σ H Q=>t σ H fun c H1=>if c=true then ta σ H1 Q else tb σ H1 Q
theorem Et{c:Expr}(hc:PT X c tA)(ha:PE X a ta)(hb:PE X b tb):PE X (.IfExp c a b pos) (tIf tA ta tb):=by
 intro pins s σ H Q I h
 refine wpAny_IfExp (cA (hc pins s σ H _ I h) fun d s1 ⟨H1,I1,q1⟩=>?_)
 cases d with
 | true=>exact ha pins s1 σ H1 Q I1 q1
 | false=>exact hb pins s1 σ H1 Q I1 q1
end
def aX(K:PySem.W.Frag)(H:Hp)(a:Addr)(xs:List V):Prop:=
 Rd H a (.lst xs) ∨
  ∃(o:Obj)(its:Array Value)(n:Nat),K.lookup a=some o/\o.cls = .type "list" /\ o.dict=none/\o.data = .seq its n/\its.size<=sizeLine/\Vals xs its.toList
def aH(K:PySem.W.Frag)(H:Hp)(a:Addr)(xs:List V):Prop:=
 Rd H a (.tup xs) ∨
  ∃(o:Obj)(its:Array Value)(n:Nat),K.lookup a=some o/\o.cls = .type "tuple" /\ o.data = .seq its n/\its.size<=sizeLine/\Vals xs its.toList
def qEK:Value->Option V
 | .none=>some .non
 | .bool b=>some (.bl b)
 | .int i _=>some (.int i)
 | .str x _=>some (.str x)
 | .bytes b _=>some (.Ph b)
 | .float b _=>some (.flt b)
 | .ref a=>some (.ref a)
 | .type n=>some (.ty n)
 | _=>none
theorem RelV.abs{x:V}{u:Value}(r:RelV x u):qEK u=some x:=by
 cases x with
 | non=>cases r;rfl
 | bl _=>cases r;rfl
 | int _=>obtain⟨t,rfl⟩:=r;rfl
 | str _=>obtain⟨t,rfl⟩:=r;rfl
 | Ph _=>obtain⟨t,rfl⟩:=r;rfl
 | flt _=>obtain⟨t,rfl⟩:=r;rfl
 | ref _=>cases r;rfl
 | ty _=>cases r;rfl
theorem RelV.inj{x y:V}{u:Value}(r:RelV x u)(q:RelV y u):x=y:=oN (r.abs.symm.trans q.abs)
theorem Vals.inj:∀ {xs ys:List V} {us:List Value},Vals xs us->Vals ys us->xs=ys
 | _,_,_,.nil,.nil=>rfl
 | _,_,_,.cons r t,.cons r' t'=>by rw[r.inj r',Vals.inj t t']
section
variable{X:Cx}{pins:List (Addr × Obj)}{σ:St}{H:Hp}{s:Shared}{a:Addr}{xs ys:List V}
theorem aX.of{K:PySem.W.Frag}(h:H a=some (.lst xs)):aX K H a xs:=.inl (.inl h)
theorem aH.of{K:PySem.W.Frag}(h:H a=some (.tup xs)):aH K H a xs:=.inl (.inl h)
theorem Inv.list(I:Inv X pins σ H s)(h:aX X.K H a xs):∃ its:List Value,Vals xs its/\PlainL s.heap a its.toArray/\xs.length<=sizeLine:=by
 rcases h with h | ⟨o,its,n,hk,hc,hd,hs,hz,r⟩
 ·obtain⟨z,its,n,r,e⟩:=h.ok I.hok
  exact⟨its,r,⟨_,n,e,rfl,rfl,rfl⟩,z⟩
 ·refine⟨its.toList,r,⟨o,n,I.vC a o hk,hc,hd,by simpa using hs⟩,?_⟩
  have e:=r.length
  simp only[Array.length_toList]at e
  lia
theorem Inv.tuple(I:Inv X pins σ H s)(h:aH X.K H a xs):∃ its:List Value,Vals xs its/\IsTup s.heap a its.toArray/\xs.length<=sizeLine:=by
 rcases h with h | ⟨o,its,n,hk,hc,hs,hz,r⟩
 ·obtain⟨z,its,r,p⟩:=h.ok I.hok
  exact⟨its,r,p,z⟩
 ·refine⟨its.toList,r,⟨o,I.vC a o hk,hc,n,by simpa using hs⟩,?_⟩
  have e:=r.length
  simp only[Array.length_toList]at e
  lia
theorem Inv.Rg(I:Inv X pins σ H s)(h:aX X.K H a xs)(h':aX X.K H a ys):xs=ys:=by
 obtain⟨its,r,⟨o,n,e,_,_,d⟩,_⟩:=I.list h
 obtain⟨its',r',⟨o',n',e',_,_,d'⟩,_⟩:=I.list h'
 rw[e]at e';cases e'
 rw[d]at d'
 injection d' with d1 _
 have:its=its':=by simpa using congrArg Array.toList d1
 subst this
 exact r.inj r'
theorem Inv.uA(I:Inv X pins σ H s)(h:aH X.K H a xs)(h':aH X.K H a ys):xs=ys:=by
 obtain⟨its,r,⟨o,e,_,n,d⟩,_⟩:=I.tuple h
 obtain⟨its',r',⟨o',e',_,n',d'⟩,_⟩:=I.tuple h'
 rw[e]at e';cases e'
 rw[d]at d'
 injection d' with d1 _
 have:its=its':=by simpa using congrArg Array.toList d1
 subst this
 exact r.inj r'
end
abbrev Cx.wish(X:Cx)(E:Value->Shared->Prop):Cx:={ X with xe:=E }
abbrev Cx.nox(X:Cx):Cx:=X.wish fun _ _=>False
theorem Cx.Ok.wish{X:Cx}(ok:X.Ok)(E:Value->Shared->Prop):(X.wish E).Ok:=
 ⟨ok.mod,ok.kind,ok.glob,ok.blt,ok.above,ok.inj,ok.has,ok.cab,ok.hd,ok.frames,ok.stk,ok.exf,ok.bs,ok.W5,ok.RJ,ok.Vw,ok.vI,ok.Z1⟩
theorem Cx.Ok.pA{X:Cx}{E:Value->Shared->Prop}(ok:(X.wish E).Ok):X.Ok:=
 ⟨ok.mod,ok.kind,ok.glob,ok.blt,ok.above,ok.inj,ok.has,ok.cab,ok.hd,ok.frames,ok.stk,ok.exf,ok.bs,ok.W5,ok.RJ,ok.Vw,ok.vI,ok.Z1⟩
section
variable{X:Cx}{pins:List (Addr × Obj)}{σ:St}{H:Hp}{s:Shared}{E:Value->Shared->Prop}
theorem Inv.wish(I:Inv X pins σ H s)(E:Value->Shared->Prop):Inv (X.wish E) pins σ H s:=⟨I.ok.wish E,I.os,I.bare,I.base,I.loc,I.cell,I.free,I.pR,I.pin,I.hok,I.len⟩
theorem Inv.pA(I:Inv (X.wish E) pins σ H s):Inv X pins σ H s:=⟨I.ok.pA,I.os,I.bare,I.base,I.loc,I.cell,I.free,I.pR,I.pin,I.hok,I.len⟩
theorem SP.pA{D:Ends}{f:Flow}{s':Shared}(h:SP (X.wish E) pins D f s'):SP X pins D f s':=by
 cases f with
 | next=>obtain⟨σ',H',I,q⟩:=h;exact⟨σ',H',I.pA,q⟩
 | brk=>obtain⟨σ',H',I,q⟩:=h;exact⟨σ',H',I.pA,q⟩
 | cont=>obtain⟨σ',H',I,q⟩:=h;exact⟨σ',H',I.pA,q⟩
 | ret u=>obtain⟨v,σ',H',I,r,q⟩:=h;exact⟨v,σ',H',I.pA,r,q⟩
theorem Gi.nox{st:List Stmt}{t:TS}(h:Gi X.nox st t):Gi X st t:=fun pins s σ H D I hw=>
 wpAny_mono (h pins s σ H D (I.wish _) hw) (fun _ _ q=>q.pA) fun _ _ z=>False.elim z
end
section
variable{X:Cx}{st:Stmt}{rest:List Stmt}{t u:TS}{e:Expr}{te:TE}{pos:Pos}
def qAP:TS:=fun D σ H=>D.nx σ H
def qAL(t u:TS):TS:=fun D σ H=>t { D with nx:=u D } σ H
theorem zT:Gi X [] qAP:=fun _ _ σ H _ I h=>wpAny_execs_nil ⟨σ,H,I,h⟩
theorem zE(h1:PS X st t)(h2:Gi X rest u):Gi X (st :: rest) (qAL t u):=by
 intro pins s σ H D I h
 refine wpAny_execs_cons (cA (h1 pins s σ H { D with nx:=u D } I h) fun f s1 q=>?_)
 cases f with
 | next=>
  obtain⟨σ',H',I',q⟩:=q
  exact h2 pins s1 σ' H' D I' q
 | ret v=>exact q
 | brk=>exact q
 | cont=>exact q
theorem zG(h1:PS X st t):Gi X [st] t:=by
 intro pins s σ H D I h
 refine wpAny_execs_cons (cA (h1 pins s σ H D I h) fun f s1 q=>?_)
 cases f with
 | next=>exact wpAny_execs_nil q
 | ret v=>exact q
 | brk=>exact q
 | cont=>exact q
theorem Inv.quiet{pins:List (Addr × Obj)}{σ:St}{H:Hp}{s:Shared}(I:Inv X pins σ H s):interactive X.env=false:=by simp [interactive,I.ok.kind]
def qAS(te:TE):TS:=fun D σ H=>te σ H fun _ H1=>D.nx σ H1
theorem yI(he:PE X e te)(hs:swapsWith e none pos.line X.env=pure false:=by rfl):PS X (.Expr e pos) (qAS te):=by
 intro pins s σ H D I h
 exact wpAny_Expr_any (cA (he pins s σ H _ I h) fun v s1 ⟨x,H1,I1,r1,q1⟩=>⟨σ,H1,I1,q1⟩) I.quiet hs
def qCJ(te:TE):TS:=fun D σ H=>te σ H D.rt
theorem zO(he:PE X e te):PS X (.Return (some e) pos) (qCJ te):=by
 intro pins s σ H D I h
 exact wpAny_Return_some (cA (he pins s σ H _ I h) fun v s1 ⟨x,H1,I1,r1,q1⟩=>⟨x,σ,H1,I1,r1,q1⟩)
def qCM(c:TT)(t u:TS):TS:=fun D σ H=>c σ H fun b H1=>if b=true then t D σ H1 else u D σ H1
theorem yD{c:Expr}{a b:List Stmt}{tc:TT}(hc:PT X c tc)(ha:Gi X a t)(hb:Gi X b u):PS X (.If c a b pos) (qCM tc t u):=by
 intro pins s σ H D I h
 refine wpAny_If (cA (hc pins s σ H _ I h) fun d s1 ⟨H1,I1,q1⟩=>?_)
 cases d with
 | true=>exact ha pins s1 σ H1 D I1 q1
 | false=>exact hb pins s1 σ H1 D I1 q1
end
abbrev TG:=V->St->Hp->(St->Hp->Prop)->Prop
abbrev TGs:=List V->St->Hp->(St->Hp->Prop)->Prop
def PG(X:Cx)(target:Expr)(t:TG):Prop:=
 ∀(pins:List (Addr × Obj))(s:Shared)(σ:St)(H:Hp)(v:V)(u:Value)(Q:St->Hp->Prop),Inv X pins σ H s->RelV v u->t v σ H Q →
  wpAny (model X.prog X.w) X.A (assign target X.env u) (fun _ s' => ∃ σ' H',Inv X pins σ' H' s'/\Q σ' H') X.xe s
def PGs(X:Cx)(ts:List Expr)(t:TGs):Prop:=
 ∀(pins:List (Addr × Obj))(s:Shared)(σ:St)(H:Hp)(vs:List V)(us:List Value)(Q:St->Hp->Prop),Inv X pins σ H s->Vals vs us->t vs σ H Q →
  wpAny (model X.prog X.w) X.A (assignInOrder ((assignEach ts X.env).map (·.2)) us) (fun _ s' => ∃ σ' H',Inv X pins σ' H' s'/\Q σ' H') X.xe s
abbrev qAG:=V->V->V->Hp->(Hp->Prop)->Prop
def qCC(X:Cx)(t:qAG):Prop:=
 ∀(pins:List (Addr × Obj))(s:Shared)(σ:St)(H:Hp)(o i v:V)(ov iv u:Value)(Q:Hp->Prop),Inv X pins σ H s->RelV o ov->RelV i iv->RelV v u->t o i v H Q →
  wpAny (model X.prog X.w) X.A (setItem ov iv u) (fun _ s' => ∃ H',Inv X pins σ H' s'/\Q H') X.xe s
abbrev TIp:=V->V->Hp->VK->Prop
def PIp(X:Cx)(op:Operator)(t:TIp):Prop:=
 ∀(pins:List (Addr × Obj))(s:Shared)(σ:St)(H:Hp)(x y:V)(v u:Value)(Q:VK),Inv X pins σ H s->RelV x v->RelV y u->t x y H Q →
  wpAny (model X.prog X.w) X.A (inplaceOp op v u) (EP X pins σ Q) X.xe s
section
variable{X:Cx}{pos:Pos}
def Ks(i:Nat):TG:=fun v σ H Q=>Q (σ.set i (some v)) H
theorem yJ{i:Nat}{x:Str}(hN:X.N.Nodup)(hi:X.N[i]? = some x)(hx:Loc X.env.scope x)(hf:X.fn x=true ∨ X.env.scope.names.lookup x=some .local:=by first | exact .inl rfl | exact .inr rfl | assumption):PG X (.Name x pos) (Ks i):=by
 intro pins s σ H v u Q I r h
 exact wpAny_assign_Name (rG I hN hi hx r (fun s' I'=>⟨_,H,I',h⟩) hf)
def qEH:TGs:=fun vs σ H Q=>vs=[]/\Q σ H
def qC6(t:TG)(u:TGs):TGs:=fun vs σ H Q => ∃ v r,vs=v :: r/\t v σ H fun σ' H'=>u r σ' H' Q
theorem KY:PGs X [] qEH:=by
 intro pins s σ H vs us Q I r h
 obtain⟨e,h⟩:=h
 subst e
 cases r
 exact assignInOrder_nil ⟨σ,H,I,h⟩
theorem sS{e:Expr}{es:List Expr}{t:TG}{u:TGs}(h1:PG X e t)(h2:PGs X es u)
  (hs:(assignEach (e :: es) X.env).map (·.2)=assign e X.env :: (assignEach es X.env).map (·.2):=by rfl):PGs X (e :: es) (qC6 t u):=by
 intro pins s σ H vs us Q I r h
 obtain⟨v,vr,e1,h⟩:=h
 subst e1
 cases r with
 | cons r rr=>
  rw[hs]
  refine assignInOrder_cons (cA (h1 pins s σ H _ _ _ I r h) fun _ s1 ⟨σ1,H1,I1,q1⟩=>?_)
  exact h2 pins s1 σ1 H1 _ _ Q I1 rr q1
def qEF(K:PySem.W.Frag)(n:Nat)(t:TGs):TG:=fun v σ H Q => ∃ a xs,v = .ref a/\aH K H a xs/\xs.length=n/\t xs σ H Q
theorem Qh{es:List Expr}{k:Nat}{t:TGs}{n:Nat}(hc:X.calm=true)(h:PGs X es t)
  (hn:(assignEach es X.env).length=n:=by rfl) (hst:(assignEach es X.env).findIdx? (·.1)=none:=by rfl):PG X (.Tuple es k pos) (qEF X.K n t):=by
 intro pins s σ H v u Q I r hw
 obtain⟨a,xs,e1,hq,hl,hw⟩:=hw
 subst e1
 cases r
 obtain⟨its,rv,ht,hz⟩:=I.tuple hq
 refine assign_Tuple_tuple (I.ok.hd hc) ht (by simp [hn,<-hl,rv.length]) hst fun h' hx=>?_
 have I1:Inv X pins σ H { s with heap:=h' }:=I.kept (t':=s.toks) fun b o e=>hx b o (Nat.ne_of_lt (Heap.lt_size e)) e
 exact h pins _ σ H xs _ Q I1 (by simpa using rv) hw
def qEG(to ti:TE)(t:qAG):TG:=fun v σ H Q=>to σ H fun o H1=>ti σ H1 fun i H2=>t o i v H2 fun H3=>Q σ H3
theorem Hg{o i:Expr}{to ti:TE}{t:qAG}(ho:PE X o to)(hi:PE X i ti)(hs:qCC X t)
  (ha:∀ v,assign (.Subscript o i pos) X.env v=(do
   let ov ← holding [v] (eval o X.env)
   let iv ← holding [v,ov] (eval i X.env)
   standAt pos
   holding [v,ov,iv] (setItem ov iv v)
   release [v,ov,iv] []):=by intro _;rfl):PG X (.Subscript o i pos) (qEG to ti t):=by
 intro pins s σ H v u Q I r h
 rw[ha]
 refine wpAny_bind (wpAny_holding (cA (ho pins s σ H _ I h) fun ov s1 ⟨x,H1,I1,r1,q1⟩=>?_))
 refine wpAny_bind (wpAny_holding (cA (hi pins s1 σ H1 _ I1 q1) fun iv s2 ⟨y,H2,I2,r2,q2⟩=>?_))
 refine wpAny_bind (wpAny_standAt (wpAny_bind (wpAny_holding (cA (hs pins s2 σ H2 x y v ov iv u _ I2 r1 r2 r q2) fun _ s3 ⟨H3,I3,q3⟩=>?_))))
 exact wpAny_release ⟨σ,H3,I3,q3⟩
def Uh(te:TE)(g:TG):TS:=fun D σ H=>te σ H fun x H1=>g x σ H1 D.nx
theorem Hc{tg e:Expr}{te:TE}{g:TG}(he:PE X e te)(hg:PG X tg g)(hs:swapsWithSole [tg] e pos.line X.env=pure false:=by rfl)(hw:swappedStores [tg] e X.env=pure none:=by rfl)
  (h1:(assignEach [tg] X.env).map (·.2)=[assign tg X.env]:=by rfl):PS X (.Assign [tg] e pos) (Uh te g):=by
 intro pins s σ H D I h
 refine wpAny_Assign_stores (cA (he pins s σ H _ I h) fun v s1 ⟨x,H1,I1,r1,q1⟩=>?_) hs hw
 rw[h1]
 exact cA (hg pins s1 σ H1 x v _ I1 r1 q1) fun _ s2 q=>q
theorem zK{i:Nat}{x:Str}{e:Expr}{te:TE}{pos':Pos}(hN:X.N.Nodup)(hi:X.N[i]? = some x)(hx:Loc X.env.scope x)(he:PE X e te)(hs:swapsWith e (some (.Name x pos')) pos.line X.env=pure false:=by rfl)(hf:X.fn x=true ∨ X.env.scope.names.lookup x=some .local:=by first | exact .inl rfl | exact .inr rfl | assumption) :
  PS X (.Assign [.Name x pos'] e pos) (Uh te (Ks i)):=by
 intro pins s σ H D I h
 refine wpAny_Assign_Name (cA (he pins s σ H _ I h) fun v s1 ⟨y,H1,I1,r1,q1⟩=>?_) hs
 exact rG I1 hN hi hx r1 (fun s2 I2=>⟨_,H1,I2,q1⟩) hf
def qCQ(i:Nat)(te:TE)(ti:TIp):TS:=fun D σ H => ∃ x,σ[i]? = some (some x)/\te σ H fun y H1=>ti x y H1 fun z H2=>D.nx (σ.set i (some z)) H2
theorem Y0{i:Nat}{x:Str}{e:Expr}{te:TE}{op:Operator}{ti:TIp}{pos':Pos}(hN:X.N.Nodup)(hi:X.N[i]? = some x)(hx:Loc X.env.scope x)(he:PE X e te)(ho:PIp X op ti)(hf:X.fn x=true ∨ X.env.scope.names.lookup x=some .local:=by first | exact .inl rfl | exact .inr rfl | assumption) :
  PS X (.AugAssign (.Name x pos') op e pos) (qCQ i te ti):=by
 intro pins s σ H D I h
 obtain⟨v,e1,h⟩:=h
 obtain⟨m,hn,hl⟩:=I.loc
 have vis:Vis X.env.scope x:=by rcases hx with k | k;exact .inl k;exact .inr (.inl k)
 obtain⟨u,r,l⟩:=hl i x v hi e1 vis
 refine wpAny_AugAssign_Name ?_
 have go:wpAny (model X.prog X.w) X.A (eval e X.env) (fun w s₂=>wpAny (model X.prog X.w) X.A (inplaceOp op u w) (fun r s₃=>wpAny (model X.prog X.w) X.A (storeName X.env x r) (fun _=>SP X pins D .next) X.xe s₃) X.xe s₂) X.xe s:=by
  refine cA (he pins s σ H _ I h) fun w s1 ⟨y,H1,I1,r1,q1⟩=>?_
  refine cA (ho pins s1 σ H1 v y u w _ I1 r r1 q1) fun z s2 ⟨zv,H2,I2,r2,q2⟩=>?_
  exact rG I2 hN hi hx r2 (fun s3 I3=>⟨_,H2,I3,q2⟩) hf
 rcases l with ⟨hk,hm⟩ | ⟨hk,c,hc,hcell⟩
 ·exact wpAny_loadName_local I.ok.kind hk hn hm go
 ·rcases hk with hk | hk
  ·exact wpAny_loadName_cell I.ok.kind hk hc hcell go
  ·rcases hx with k | k
   ·have:X.env.scope.names.lookup x=some .free:=hk
    rw[k]at this;cases this
   ·have:X.env.scope.names.lookup x=some .free:=hk
    rw[k]at this;cases this
def ipI(f:Int->Int->Int):TIp:=fun x y H Q => ∃ i j,x = .int i/\y = .int j/\Q (.int (f i j)) H
theorem Ym:PIp X .Add (ipI fun i j=>i+j):=by
 intro pins s σ H x y v u Q I r1 r2 h
 obtain⟨i,j,e1,e2,q⟩:=h
 subst e1;subst e2
 obtain⟨t,rfl⟩:=r1
 obtain⟨t',rfl⟩:=r2
 exact iadd_int ⟨.int _,H,I.tok _,⟨_,rfl⟩,q⟩
def Xg(c:TT)(tb:TS):TS:=fun D σ H => ∃ W:Nat->St->Hp->Prop,(∃ m,W m σ H)/\∀ m σ H,W m σ H →
 c σ H fun b H1=>if b=true then ∃ N:St->Hp->Prop,(∀ σ' H',N σ' H'->∃ m',m' < m/\W m' σ' H')/\tb { D with nx:=N,ct:=N,bk:=D.nx } σ H1 else D.nx σ H1
theorem pM{c:Expr}{body:List Stmt}{tc:TT}{tb:TS}(hp:PassesOwn (model X.prog X.w) X.A X.env X.xe)(hc:PT X c tc)(hb:Gi X body tb):PS X (.While c body [] pos) (Xg tc tb):=by
 intro pins s σ H D I h
 obtain⟨W,⟨m0,w0⟩,turn⟩:=h
 refine wpAny_While (codeAny_whileLoop (fun n s' => ∃ σ' H',Inv X pins σ' H' s'/\W n σ' H') ?_ m0 ⟨σ,H,I,w0⟩)
 rintro n s1 ⟨σ1,H1,I1,w1⟩
 refine wpAny_passesOwn hp (cA (hc pins s1 σ1 H1 _ I1 (turn n σ1 H1 w1)) fun b s2 ⟨H2,I2,q2⟩=>?_)
 cases b with
 | true=>
  obtain⟨N,hN,q2⟩:=q2
  rw[if_pos rfl]
  refine wpAny_passesOwn hp (cA (hb pins s2 σ1 H2 _ I2 q2) fun f s3 q3=>?_)
  cases f with
  | next=>
   obtain⟨σ3,H3,I3,n3⟩:=q3
   obtain⟨m',hm,w3⟩:=hN σ3 H3 n3
   exact⟨m',hm,σ3,H3,I3,w3⟩
  | cont=>
   obtain⟨σ3,H3,I3,n3⟩:=q3
   obtain⟨m',hm,w3⟩:=hN σ3 H3 n3
   exact⟨m',hm,σ3,H3,I3,w3⟩
  | brk=>exact q3
  | ret v=>exact q3
 | false=>
  rw[if_neg mU]
  exact wpAny_execs_nil ⟨σ1,H2,I2,q2⟩
end
structure It where
 go:Nat->Hp->Prop
 Ub:Nat->Hp->V->Hp->Prop
 stop:Nat->Hp->Prop
def oh(X:Cx)(pins:List (Addr × Obj))(H:Hp)(b:Addr):Prop:=
 H b=none/\b ≠ X.env.locals/\b ∉ X.fs/\(b∈X.ex ∨ X.s₀.heap.objs.size<=b)/\(∀ x c,X.env.cells.lookup x=some c->c ≠ b)/\∀ p∈X.pn++pins,p.1 ≠ b
theorem Inv.yx{X:Cx}{pins:List (Addr × Obj)}{σ:St}{H H':Hp}{s:Shared}{b:Addr}(I:Inv X pins σ H s)(hb:s.heap.objs.size<=b)(hn:H' b=none):oh X pins H' b:=by
 refine⟨hn,Nat.ne_of_gt (Nat.lt_of_lt_of_le I.lt hb),I.qD8 hb,.inr (Nat.le_trans I.sz hb),fun x c e z=>?_,fun p hp z=>?_⟩
 ·obtain⟨v,q⟩:=I.cell x c e
  exact absurd (Nat.lt_of_lt_of_le q.lt (by rw[z];exact hb)) (Nat.lt_irrefl _)
 ·exact absurd (Nat.lt_of_lt_of_le (Heap.lt_size (I.pin p hp).1) (by rw[z];exact hb)) (Nat.lt_irrefl _)
structure Turn(P:Program)(w:World)(K:PySem.W.Frag)(tg:Expr)(J:It)(fp:List Addr)(it:Addr)(tn:Nat->Heap->Prop):Prop where
 mem:it∈fp
 obj:∀ i h,tn i h->∀ b∈fp,∃ o,h.get? b=some o/\∀ v,o.data ≠ .cell v
 keep:∀ i h h',tn i h->(∀ b∈fp,∀ o,h.get? b=some o->h'.get? b=some o)->tn i h'
 item:∀(X:Cx),X.prog=P->X.w=w->X.K=K->X.calm=true->∀(i:Nat)(pins:List (Addr × Obj))(s:Shared)(σ:St)(H:Hp)(E:Value->Shared->Prop),Inv X pins σ H s->(∀ b∈fp,oh X pins H b)->tn i s.heap->J.go i H →
  wpAny (model P w) X.A (pyNext (.ref it)) (fun r s1 => ∃ u,r=some u ∧
   wpAny (model P w) X.A (letOwnedTupleGo tg (.ref it) u) (fun _ s2 => ∃ x H',Inv X pins σ H' s2/\RelV x u/\J.Ub i H x H'/\tn (i+1) s2.heap/\∀ b∈fp,H' b=none) E s1) E s
 done:∀(X:Cx),X.prog=P->X.w=w->X.K=K->X.calm=true->∀(i:Nat)(pins:List (Addr × Obj))(s:Shared)(σ:St)(H:Hp)(E:Value->Shared->Prop),Inv X pins σ H s->(∀ b∈fp,oh X pins H b)->tn i s.heap->J.stop i H →
  wpAny (model P w) X.A (pyNext (.ref it)) (fun r s1=>r=none/\Inv X pins σ H s1) E s
 self:∀(A:Around)(i:Nat)(s:Shared)(Q:Value->Shared->Prop)(E:Value->Shared->Prop),tn i s.heap->Q (.ref it) s->wpAny (model P w) A (pyIter (.ref it)) Q E s
abbrev TI:=St->Hp->(It->Hp->Prop)->Prop
def PIE(X:Cx)(pins:List (Addr × Obj))(σ:St)(tg:Expr)(R:It->Hp->Prop)(itv:Value)(s2:Shared):Prop:=
 ∃(it:Addr)(fp:List Addr)(tn:Nat->Heap->Prop)(J:It)(H':Hp),itv = .ref it/\Inv X pins σ H' s2/\Turn X.prog X.w X.K tg J fp it tn/\tn 0 s2.heap/\(∀ b∈fp,oh X pins H' b)/\R J H'
def PI(X:Cx)(tg iter:Expr)(wi:TI):Prop:=
 ∀(pins:List (Addr × Obj))(s:Shared)(σ:St)(H:Hp)(R:It->Hp->Prop),Inv X pins σ H s->wi σ H R →
  wpAny (model X.prog X.w) X.A (eval iter X.env) (fun v s1=>wpAny (model X.prog X.w) X.A (pyIter v) (PIE X pins σ tg R) X.xe s1) X.xe s
theorem GP{M:Model}{A:Around}{E:Value->Shared->Prop}{s:Shared}{tg:Expr}{it:Addr}{u:Value}{o:Obj}{n:String}{vs:Array Value}{Q:Unit->Shared->Prop}(ho:s.heap.get? it=some o)(hc:o.cls = .type n)(hd:o.data = .fields vs)
  (hn:["enumerate","zip","dict_itemiterator","dict_reverseitemiterator","odict_iterator","itertools.zip_longest","itertools.pairwise"].contains n=false) (hQ:Q () s):wpAny M A (letOwnedTupleGo tg (.ref it) u) Q E s:=by
 unfold letOwnedTupleGo
 cases tg <;> first
  | exact wpAny_pure hQ
  | (cases u <;> first
    | exact wpAny_pure hQ
    | (refine wpAny_bind (wpAny_load ho ?_)
       rw[hc,hd]
       show wpAny M A (if (["enumerate","zip","dict_itemiterator","dict_reverseitemiterator","odict_iterator","itertools.zip_longest","itertools.pairwise"].contains n && vs[0]? == some (rawInt _))=true then _ else _) Q E s
       rw[if_neg (by intro h;rw[hn,Bool.false_and]at h;cases h)]
       exact wpAny_pure hQ))
def WY(K:PySem.W.Frag)(a:Addr):It:=
 ⟨fun i H => ∃ xs x,aX K H a xs/\xs[i]? = some x,fun i H x H'=>H'=H/\∀ xs,aX K H a xs->xs[i]? = some x,fun i H => ∃ xs,aX K H a xs/\xs.length<=i⟩
def Xc(K:PySem.W.Frag)(a:Addr):It:=
 ⟨fun i H => ∃ xs x,aH K H a xs/\xs[i]? = some x,fun i H x H'=>H'=H/\∀ xs,aH K H a xs->xs[i]? = some x,fun i H => ∃ xs,aH K H a xs/\xs.length<=i⟩
def WX(lo:Int)(n:Nat):It:=⟨fun i _=>i < n,fun i H x H'=>H'=H/\x = .int (lo+i),fun i _=>n<=i⟩
theorem Lz{P:Program}{w:World}{K:PySem.W.Frag}{tg:Expr}(a it:Addr):Turn P w K tg (WY K a) [it] it (fun i h=>h.IsListIter it a i) where
 mem:=by simp
 obj:=fun i h st b hb=>by
  have e:b=it:=by simpa using hb
  subst e
  obtain⟨o,e,c,d⟩:=st
  exact⟨o,e,fun v z=>by rw[d]at z;cases z⟩
 keep:=fun i h h' st k=>st.at fun o e=>k it (by simp) o e
 item:=by
  intro X hP hw hK hc i pins s σ H E I hf st hg
  subst hP hw hK
  obtain⟨xs,x,hq,hx⟩:=hg
  obtain⟨its,rv,p,hz⟩:=I.list hq
  obtain⟨u,hu,ru⟩:=rv.get hx
  obtain⟨f0,f1,f2,f3,f4,f5⟩:=hf it (by simp)
  refine wpAny_pyNext_list_item st p.isList (x:=u) (by simpa using hu) fun h' st' sb=>?_
  have I1:Inv X pins σ H { s with heap:=h' }:=I.turned (t':=s.toks) (fun b o hb e=>(sb.2 b hb).trans e) f0 f1 f3 f4 f5
  obtain⟨o,e,c,d⟩:=id st'
  exact⟨u,rfl,GP (s:={ s with heap:=h' }) e c d (by decide) ⟨x,H,I1,ru,⟨rfl,fun ys hy=>by rw[I.Rg hy hq];exact hx⟩,st',fun b hb=>(hf b hb).1⟩⟩
 done:=by
  intro X hP hw hK hc i pins s σ H E I hf st hg
  subst hP hw hK
  obtain⟨xs,hq,hx⟩:=hg
  obtain⟨its,rv,p,hz⟩:=I.list hq
  obtain⟨f0,f1,f2,f3,f4,f5⟩:=hf it (by simp)
  have hl:=rv.length
  exact wpAny_pyNext_list_end (I.ok.hd hc) st p.isList (by simp;lia) fun h' eb=>⟨rfl,I.turned (t':=s.toks) (fun b o hb e=>eb b o hb e) f0 f1 f3 f4 f5⟩
 self:=fun _ _ _ _ _ st h=>wpAny_pyIter_listiter st h
theorem Gx{P:Program}{w:World}{K:PySem.W.Frag}{tg:Expr}(a it:Addr):Turn P w K tg (Xc K a) [it] it (fun i h=>h.IsTupleIter it a i) where
 mem:=by simp
 obj:=fun i h st b hb=>by
  have e:b=it:=by simpa using hb
  subst e
  obtain⟨o,e,c,d⟩:=st
  exact⟨o,e,fun v z=>by rw[d]at z;cases z⟩
 keep:=fun i h h' st k=>st.at fun o e=>k it (by simp) o e
 item:=by
  intro X hP hw hK hc i pins s σ H E I hf st hg
  subst hP hw hK
  obtain⟨xs,x,hq,hx⟩:=hg
  obtain⟨its,rv,p,hz⟩:=I.tuple hq
  obtain⟨u,hu,ru⟩:=rv.get hx
  obtain⟨f0,f1,f2,f3,f4,f5⟩:=hf it (by simp)
  refine wpAny_pyNext_tuple_item st (show s.heap.IsTuple a its.toArray from p) (x:=u) (by simpa using hu) fun h' st' sb=>?_
  have I1:Inv X pins σ H { s with heap:=h' }:=I.turned (t':=s.toks) (fun b o hb e=>(sb.2 b hb).trans e) f0 f1 f3 f4 f5
  obtain⟨o,e,c,d⟩:=id st'
  exact⟨u,rfl,GP (s:={ s with heap:=h' }) e c d (by decide) ⟨x,H,I1,ru,⟨rfl,fun ys hy=>by rw[I.uA hy hq];exact hx⟩,st',fun b hb=>(hf b hb).1⟩⟩
 done:=by
  intro X hP hw hK hc i pins s σ H E I hf st hg
  subst hP hw hK
  obtain⟨xs,hq,hx⟩:=hg
  obtain⟨its,rv,p,hz⟩:=I.tuple hq
  obtain⟨f0,f1,f2,f3,f4,f5⟩:=hf it (by simp)
  have hl:=rv.length
  exact wpAny_pyNext_tuple_end (I.ok.hd hc) st (show s.heap.IsTuple a its.toArray from p) (by simp;lia) fun h' eb=>⟨rfl,I.turned (t':=s.toks) (fun b o hb e=>eb b o hb e) f0 f1 f3 f4 f5⟩
 self:=fun _ _ _ _ _ st h=>wpAny_pyIter_tupleiter st h
theorem Gy{P:Program}{w:World}{K:PySem.W.Frag}{tg:Expr}(it:Addr)(lo:Int)(n:Nat):Turn P w K tg (WX lo n) [it] it (fun i h=>IsRangeIter h it (lo+(i:Nat) * 1) ((n:Int) - (i:Nat)) 1) where
 mem:=by simp
 obj:=fun i h st b hb=>by
  have e:b=it:=by simpa using hb
  subst e
  exact⟨_,st,fun v z=>by
   have z':Data.fields _=Data.cell v:=z
   cases z'⟩
 keep:=fun i h h' st k=>k it (by simp) _ st
 item:=by
  intro X hP hw hK hc i pins s σ H E I hf st hg
  subst hP hw hK
  obtain⟨f0,f1,f2,f3,f4,f5⟩:=hf it (by simp)
  have W:=Walks.range (prog:=X.prog) (w:=X.w) (I.ok.hd hc) it lo 1 n
  refine W.item i s _ _ hg st fun v h' tk hv st' kk=>?_
  obtain⟨t,rfl⟩:=hv
  have I1:Inv X pins σ H { s with heap:=h',toks:=tk }:=I.turned (fun b o hb e=>kk b o (by simpa using hb) e) f0 f1 f3 f4 f5
  refine⟨_,rfl,GP (s:={ s with heap:=h',toks:=tk }) (n := "range_iterator") st' rfl rfl (by decide) ⟨.int (lo+i),H,I1,⟨t,?_⟩,⟨rfl,rfl⟩,st',fun b hb=>(hf b hb).1⟩⟩
  rw[Int.mul_one]
 done:=by
  intro X hP hw hK hc i pins s σ H E I hf st hg
  subst hP hw hK
  obtain⟨f0,f1,f2,f3,f4,f5⟩:=hf it (by simp)
  exact wpAny_pyNext_range_end (I.ok.hd hc) st (by have:n<=i:=hg;lia) fun h' eb=>⟨rfl,I.turned (t':=s.toks) (fun b o hb e=>eb b o hb e) f0 f1 f3 f4 f5⟩
 self:=fun _ _ _ _ _ st h=>wpAny_pyIter_rangeiter st h
section
variable{X:Cx}{tg:Expr}
def qBQ(K:PySem.W.Frag)(tl:TE):TI:=fun σ H R=>tl σ H fun x H1 => ∃ a,x = .ref a/\(∃ xs,aX K H1 a xs)/\R (WY K a) H1
def qDK(K:PySem.W.Frag)(tl:TE):TI:=fun σ H R=>tl σ H fun x H1 => ∃ a,x = .ref a/\(∃ xs,aH K H1 a xs)/\R (Xc K a) H1
theorem yM{l:Expr}{tl:TE}(hl:PE X l tl):PI X tg l (qBQ X.K tl):=by
 intro pins s σ H R I h
 refine cA (hl pins s σ H _ I h) fun v s1 ⟨x,H1,I1,r1,q1⟩=>?_
 obtain⟨a,e,⟨xs,hq⟩,q⟩:=q1
 subst e
 cases r1
 obtain⟨its,rv,p,hz⟩:=I1.list hq
 refine wpAny_pyIter_list p.isList ?_
 refine⟨s1.heap.objs.size,[s1.heap.objs.size],_,_,H1,rfl,I1.kept (t':=s1.toks) fun b o e=>Heap.get?_push_of_some _ e,Lz a _,⟨_,Heap.get?_push_size _ rfl,rfl,rfl⟩,fun b hb=>?_,q⟩
 have e:b=s1.heap.objs.size:=by simpa using hb
 subst e
 exact I1.yx (bu _) (I1.hok.fresh (bu _))
theorem nJ{l:Expr}{tl:TE}(hl:PE X l tl):PI X tg l (qDK X.K tl):=by
 intro pins s σ H R I h
 refine cA (hl pins s σ H _ I h) fun v s1 ⟨x,H1,I1,r1,q1⟩=>?_
 obtain⟨a,e,⟨xs,hq⟩,q⟩:=q1
 subst e
 cases r1
 obtain⟨its,rv,p,hz⟩:=I1.tuple hq
 refine wpAny_pyIter_tuple (show s1.heap.IsTuple a its.toArray from p) ?_
 refine⟨s1.heap.objs.size,[s1.heap.objs.size],_,_,H1,rfl,I1.kept (t':=s1.toks) fun b o e=>Heap.get?_push_of_some _ e,Gx a _,⟨_,Heap.get?_push_size _ rfl,rfl,rfl⟩,fun b hb=>?_,q⟩
 have e:b=s1.heap.objs.size:=by simpa using hb
 subst e
 exact I1.yx (bu _) (I1.hok.fresh (bu _))
theorem Eo{pins:List (Addr × Obj)}{σ:St}{H:Hp}{s:Shared}{R:It->Hp->Prop}{E:Value->Shared->Prop}{lo hi:Int}{t u v:Tok}{tk:Nat}(I:Inv X pins σ H s)(h1 : -(2 ^ 62)<=lo)(h2:lo < 2 ^ 62)(h3 : -(2 ^ 62)<=hi)(h4:hi < 2 ^ 62)
  (q:R (WX lo (hi - lo).toNat) H):wpAny (model X.prog X.w) X.A (pyIter (.ref s.heap.objs.size)) (PIE X pins σ tg R) E { s with heap:=s.heap.push { cls:=.type "range",data:=.fields #[.int lo t,.int hi u,.int 1 v] },toks:=tk }:=by
 refine wpAny_pyIter_range (IsRange.new ..) (small_one h1 h2 h3 h4) ?_
 have I1:Inv X pins σ H { s with heap:=s.heap.push { cls:=.type "range",data:=.fields #[.int lo t,.int hi u,.int 1 v] },toks:=tk }:=I.kept fun b o e=>Heap.get?_push_of_some _ e
 refine⟨(s.heap.push { cls:=.type "range",data:=.fields #[.int lo t,.int hi u,.int 1 v] }).objs.size,[(s.heap.push { cls:=.type "range",data:=.fields #[.int lo t,.int hi u,.int 1 v] }).objs.size],_,_,H,rfl,
  I1.kept (t':=tk) fun b o e=>Heap.get?_push_of_some _ e,Gy _ lo (hi - lo).toNat,?_,fun b hb=>?_,q⟩
 ·have e1:lo+((0:Nat):Int) * 1=lo:=by simp
  have e2:(((hi - lo).toNat:Nat):Int) - ((0:Nat):Int)=Builtin.Range.rangeSize lo hi 1:=by rw[rangeSize_one];split <;> lia
  show IsRangeIter _ _ (lo+((0:Nat):Int) * 1) ((((hi - lo).toNat:Nat):Int) - ((0:Nat):Int)) 1
  rw[e1,e2]
  exact Heap.get?_push_size _ rfl
 ·have e:b=(s.heap.push { cls:=.type "range",data:=.fields #[.int lo t,.int hi u,.int 1 v] }).objs.size:=by simpa using hb
  subst e
  exact I1.yx (bu _) (I1.hok.fresh (bu _))
def qBP(ta:TA):TI:=fun σ H R=>ta σ H fun vs H1 => ∃ j:Int,vs=[.int j] /\ -(2 ^ 62)<=j/\j < 2 ^ 62/\R (WX 0 j.toNat) H1
def qBO(ta:TA):TI:=fun σ H R=>ta σ H fun vs H1 => ∃ i j:Int,vs=[.int i,.int j]/\(-(2 ^ 62)<=i/\i < 2 ^ 62 /\ -(2 ^ 62)<=j/\j < 2 ^ 62)/\R (WX i (j - i).toNat) H1
theorem bV{a:Expr}{ta:TA}{p pos:Pos}(hg:Gl X "range")(hm:X.mg "range" = none)(ha:PA X [a] ta)(hs:starEach [a] X.env=[(false,eval a X.env)]:=by rfl):PI X tg (.Call (.Name "range" p) [a] [] pos) (qBP ta):=by
 intro pins s σ H R I h
 refine Call_ (nU I hg hm boot_range (PyProof.Rows.callWith_type1 (cA (ha pos pins s σ H _ I h) fun us s1 ⟨vs,H1,I1,r1,q1⟩=>?_) hs rfl))
 obtain⟨j,e,q1,q2,q⟩:=q1
 subst e
 cases r1 with
 | cons r rr=>
  cases rr
  obtain⟨t,rfl⟩:=r
  exact call_range_1 (Eo I1 (by lia) (by lia) q1 q2 (by simpa using q))
theorem qI{a b:Expr}{ta:TA}{p pos:Pos}(hg:Gl X "range")(hm:X.mg "range" = none)(ha:PA X [a,b] ta)(hs:starEach [a,b] X.env=[(false,eval a X.env),(false,eval b X.env)]:=by rfl)(hs2:starEach [b] X.env=[(false,eval b X.env)]:=by rfl) :
  PI X tg (.Call (.Name "range" p) [a,b] [] pos) (qBO ta):=by
 intro pins s σ H R I h
 refine Call_ (nU I hg hm boot_range (PyProof.Rows.callWith_type1 (cA (ha pos pins s σ H _ I h) fun us s1 ⟨vs,H1,I1,r1,q1⟩=>?_) (by rw[hs,hs2]) (by rw[hs2];rfl)))
 obtain⟨i,j,e,⟨q1,q2,q3,q4⟩,q⟩:=q1
 subst e
 cases r1 with
 | cons r rr=>
  cases rr with
  | cons r' rr=>
   cases rr
   obtain⟨t,rfl⟩:=r
   obtain⟨t',rfl⟩:=r'
   exact call_range_2 (Eo I1 q1 q2 q3 q4 q)
def qCN(wi:TI)(g:TG)(tb:TS):TS:=fun D σ H=>wi σ H fun J H1 => ∃ W:Nat->Nat->St->Hp->Prop,(∃ m,W 0 m σ H1)/\∀ i m σ H,W i m σ H →
 (J.stop i H/\D.nx σ H) ∨ (J.go i H/\∃ N:St->Hp->Prop,(∀ σ' H',N σ' H'->∃ m',m' < m/\W (i+1) m' σ' H')/\∀ x H',J.Ub i H x H'->g x σ H' fun σ2 H2=>tb { D with nx:=N,ct:=N,bk:=D.nx } σ2 H2)
def uJ(fp:List Addr)(h:Heap):List (Addr × Obj):=fp.filterMap fun b=>(h.get? b).map fun o=>(b,o)
theorem nQ{fp:List Addr}{h:Heap}{b:Addr}{o:Obj}(hb:b∈fp)(e:h.get? b=some o):(b,o)∈uJ fp h:=List.mem_filterMap.mpr ⟨b,hb,by rw[e];rfl⟩
theorem Mt{fp:List Addr}{h:Heap}{p:Addr × Obj}(hp:p∈uJ fp h):p.1∈fp/\h.get? p.1=some p.2:=by
 obtain⟨b,hb,e⟩:=List.mem_filterMap.mp hp
 cases q:h.get? b with
 | none=>rw[q]at e;cases e
 | some o=>
  rw[q]at e
  have e':(b,o)=p:=oN e
  subst e'
  exact⟨hb,q⟩
theorem Inv.pinned{pins:List (Addr × Obj)}{σ:St}{H:Hp}{s:Shared}{fp:List Addr}(I:Inv X pins σ H s)(hf:∀ b∈fp,oh X pins H b)(ho:∀ b∈fp,∃ o,s.heap.get? b=some o/\∀ v,o.data ≠ .cell v):Inv X (pins++uJ fp s.heap) σ H s:=
 I.sO fun p hp=>(cX.mp hp).elim (fun z=>I.pin p (List.mem_append_right _ z)) fun z=>by
  obtain⟨hb,e⟩:=Mt z
  obtain⟨f0,f1,f2,_⟩:=hf p.1 hb
  obtain⟨o,e',d⟩:=ho p.1 hb
  rw[e]at e';cases e'
  exact⟨e,f0,f1,f2,d⟩
theorem Inv.wH{pins pl:List (Addr × Obj)}{σ:St}{H:Hp}{s:Shared}(I:Inv X (pins++pl) σ H s):Inv X pins σ H s:=I.sO fun p hp=>I.pin p (List.mem_append_right _ (List.mem_append_left _ hp))
theorem bN{iter:Expr}{body:List Stmt}{wi:TI}{g:TG}{tb:TS}{pos:Pos}(hp:PassesOwn (model X.prog X.w) X.A X.env X.xe)(hc:X.calm=true)(hi:PI X tg iter wi)(hg:PG X tg g)(hb:Gi X body tb)
  (hs:∀ x,foldedSetIterable iter X.env x=pure x:=by intro _;rfl):PS X (.For tg iter body [] pos) (qCN wi g tb):=by
 intro pins s σ H D I h
 refine wpAny_For (cA (hi pins s σ H _ I h) fun v s1 h1=>cA h1 fun itv s2 h2=>?_) hs
 obtain⟨it,fp,tn,J,H2,e,I2,T,st2,f2,W,⟨m0,w0⟩,turn⟩:=h2
 subst e
 -- what stays true of the iterator's objects through the loop
 have stat:∀ {H':Hp},(∀ b∈fp,H' b=none)->∀ b∈fp,oh X pins H' b:=fun hn b hb=>⟨hn b hb,(f2 b hb).2⟩
 refine codeAny_forLoop_any (fun n s' => ∃ i σ' H',Inv X pins σ' H' s'/\tn i s'.heap/\(∀ b∈fp,H' b=none)/\W i n σ' H') ?_ m0 ⟨0,σ,H2,I2,st2,fun b hb=>(f2 b hb).1,w0⟩
 rintro n s3 ⟨i,σ3,H3,I3,st3,Vu,w3⟩
 rcases turn i n σ3 H3 w3 with ⟨stop,qn⟩ | ⟨go,N,hN,step⟩
 ·refine wpAny_passesOwn hp (cA (T.done X rfl rfl rfl hc i pins s3 σ3 H3 X.xe I3 (stat Vu) st3 stop) fun r s4 ⟨hr,I4⟩=>?_)
  subst hr
  exact wpAny_execs_nil ⟨σ3,H3,I4,qn⟩
 ·refine wpAny_passesOwn hp (cA (T.item X rfl rfl rfl hc i pins s3 σ3 H3 X.xe I3 (stat Vu) st3 go) fun r s4 ⟨u,hr,h4⟩=>?_)
  subst hr
  refine wpAny_passesOwn hp (cA h4 fun _ s5 ⟨x,H5,I5,r5,y5,Gs,fr5⟩=>?_)
  have I5':=I5.pinned (stat fr5) (T.obj _ _ Gs)
  refine wpAny_passesOwn hp (cA (hg _ s5 σ3 H5 x u _ I5' r5 (step x H5 y5)) fun _ s6 ⟨σ6,H6,I6,q6⟩=>?_)
  refine wpAny_passesOwn hp (cA (hb _ s6 σ6 H6 _ I6 q6) fun f s7 q7=>?_)
  have again:∀ {σ7:St} {H7:Hp},Inv X (pins++uJ fp s5.heap) σ7 H7 s7->N σ7 H7->∃ m,m < n/\∃ i σ' H',Inv X pins σ' H' s7/\tn i s7.heap/\(∀ b∈fp,H' b=none)/\W i m σ' H':=fun {σ7 H7} I7 n7=>by
   obtain⟨m',hm,w7⟩:=hN σ7 H7 n7
   refine⟨m',hm,i+1,σ7,H7,I7.wH,T.keep _ _ _ Gs fun b hb o e=>(I7.pin (b,o) (List.mem_append_right _ (List.mem_append_right _ (nQ hb e)))).1,fun b hb=>?_,w7⟩
   obtain⟨o,e,d⟩:=T.obj _ _ Gs b hb
   exact (I7.pin (b,o) (List.mem_append_right _ (List.mem_append_right _ (nQ hb e)))).2.1
  cases f with
  | next=>obtain⟨σ7,H7,I7,n7⟩:=q7;exact again I7 n7
  | cont=>obtain⟨σ7,H7,I7,n7⟩:=q7;exact again I7 n7
  | brk=>obtain⟨σ7,H7,I7,q7⟩:=q7;exact⟨σ7,H7,I7.wH,q7⟩
  | ret v=>obtain⟨x7,σ7,H7,I7,r7,q7⟩:=q7;exact⟨x7,σ7,H7,I7.wH,r7,q7⟩
end
theorem dC{K:PySem.W.Frag}{a:Addr}{xs:List V}{g:TG}{tb:TS}{D:Ends}{σ:St}{H:Hp}(Pv:Nat->St->Hp->Prop)(h0:Pv 0 σ H)(hl:∀ i σ H,i<=xs.length->Pv i σ H->aX K H a xs)
  (hs:∀ i x σ H,xs[i]? = some x->Pv i σ H->g x σ H fun σ2 H2=>tb { D with nx:=Pv (i+1),ct:=Pv (i+1),bk:=D.nx } σ2 H2) (hd:∀ σ H,Pv xs.length σ H->D.nx σ H) :
  ∃ W:Nat->Nat->St->Hp->Prop,(∃ m,W 0 m σ H)/\∀ i m σ H,W i m σ H →
   ((WY K a).stop i H/\D.nx σ H) ∨ ((WY K a).go i H/\∃ N:St->Hp->Prop,(∀ σ' H',N σ' H'->∃ m',m' < m/\W (i+1) m' σ' H')/\∀ x H',(WY K a).Ub i H x H'->g x σ H' fun σ2 H2=>tb { D with nx:=N,ct:=N,bk:=D.nx } σ2 H2):=by
 refine⟨fun i m σ H=>m=xs.length - i/\i<=xs.length/\Pv i σ H,⟨xs.length,by simp,Nat.zero_le _,h0⟩,?_⟩
 rintro i m σ H ⟨rfl,hi,p⟩
 have q:=hl i σ H hi p
 by_cases hlt:i < xs.length
 ·refine .inr ⟨⟨xs,xs[i],q,by simp [hlt]⟩,Pv (i+1),fun σ' H' p'=>⟨xs.length - (i+1),by lia,rfl,hlt,p'⟩,fun x H' y=>?_⟩
  obtain⟨e,y⟩:=y
  subst e
  exact hs i x σ _ (y xs q) p
 ·have e:i=xs.length:=by lia
  subst e
  exact .inl ⟨⟨xs,q,bu _⟩,hd σ H p⟩
theorem Ky{K:PySem.W.Frag}{a:Addr}{xs:List V}{g:TG}{tb:TS}{D:Ends}{σ:St}{H:Hp}(Pv:Nat->St->Hp->Prop)(h0:Pv 0 σ H)(hl:∀ i σ H,i<=xs.length->Pv i σ H->aH K H a xs)
  (hs:∀ i x σ H,xs[i]? = some x->Pv i σ H->g x σ H fun σ2 H2=>tb { D with nx:=Pv (i+1),ct:=Pv (i+1),bk:=D.nx } σ2 H2) (hd:∀ σ H,Pv xs.length σ H->D.nx σ H) :
  ∃ W:Nat->Nat->St->Hp->Prop,(∃ m,W 0 m σ H)/\∀ i m σ H,W i m σ H →
   ((Xc K a).stop i H/\D.nx σ H) ∨ ((Xc K a).go i H/\∃ N:St->Hp->Prop,(∀ σ' H',N σ' H'->∃ m',m' < m/\W (i+1) m' σ' H')/\∀ x H',(Xc K a).Ub i H x H'->g x σ H' fun σ2 H2=>tb { D with nx:=N,ct:=N,bk:=D.nx } σ2 H2):=by
 refine⟨fun i m σ H=>m=xs.length - i/\i<=xs.length/\Pv i σ H,⟨xs.length,by simp,Nat.zero_le _,h0⟩,?_⟩
 rintro i m σ H ⟨rfl,hi,p⟩
 have q:=hl i σ H hi p
 by_cases hlt:i < xs.length
 ·refine .inr ⟨⟨xs,xs[i],q,by simp [hlt]⟩,Pv (i+1),fun σ' H' p'=>⟨xs.length - (i+1),by lia,rfl,hlt,p'⟩,fun x H' y=>?_⟩
  obtain⟨e,y⟩:=y
  subst e
  exact hs i x σ _ (y xs q) p
 ·have e:i=xs.length:=by lia
  subst e
  exact .inl ⟨⟨xs,q,bu _⟩,hd σ H p⟩
theorem bR{lo:Int}{n:Nat}{g:TG}{tb:TS}{D:Ends}{σ:St}{H:Hp}(Pv:Nat->St->Hp->Prop)(h0:Pv 0 σ H)
  (hs:∀ i σ H,i < n->Pv i σ H->g (.int (lo+i)) σ H fun σ2 H2=>tb { D with nx:=Pv (i+1),ct:=Pv (i+1),bk:=D.nx } σ2 H2) (hd:∀ σ H,Pv n σ H->D.nx σ H) :
  ∃ W:Nat->Nat->St->Hp->Prop,(∃ m,W 0 m σ H)/\∀ i m σ H,W i m σ H →
   ((WX lo n).stop i H/\D.nx σ H) ∨ ((WX lo n).go i H/\∃ N:St->Hp->Prop,(∀ σ' H',N σ' H'->∃ m',m' < m/\W (i+1) m' σ' H')/\∀ x H',(WX lo n).Ub i H x H'->g x σ H' fun σ2 H2=>tb { D with nx:=N,ct:=N,bk:=D.nx } σ2 H2):=by
 refine⟨fun i m σ H=>m=n - i/\i<=n/\Pv i σ H,⟨n,by simp,Nat.zero_le _,h0⟩,?_⟩
 rintro i m σ H ⟨rfl,hi,p⟩
 by_cases hlt:i < n
 ·refine .inr ⟨hlt,Pv (i+1),fun σ' H' p'=>⟨n - (i+1),by lia,rfl,hlt,p'⟩,fun x H' y=>?_⟩
  obtain⟨e,y⟩:=y
  subst e y
  exact hs i σ _ hlt p
 ·have e:i=n:=by lia
  subst e
  exact .inl ⟨bu _,hd σ H p⟩
abbrev R2:=V->V->Hp->VK->Prop
def mQ(X:Cx)(f:Value->Value->Sem Value)(r:R2):Prop:=
 ∀(pins:List (Addr × Obj))(s:Shared)(σ:St)(H:Hp)(x y:V)(v u:Value)(Q:VK),Inv X pins σ H s->RelV x v->RelV y u->r x y H Q →
  wpAny (model X.prog X.w) X.A (f v u) (EP X pins σ Q) X.xe s
def UnR(X:Cx)(f:Value->Sem Value)(r:V->Hp->VK->Prop):Prop:=
 ∀(pins:List (Addr × Obj))(s:Shared)(σ:St)(H:Hp)(x:V)(v:Value)(Q:VK),Inv X pins σ H s->RelV x v->r x H Q →
  wpAny (model X.prog X.w) X.A (f v) (EP X pins σ Q) X.xe s
def mL(X:Cx)(f:Value)(r:List V->Hp->VK->Prop):Prop:=
 ∀(pins:List (Addr × Obj))(s:Shared)(σ:St)(H:Hp)(xs:List V)(us:List Value)(Q:VK),Inv X pins σ H s->Vals xs us->r xs H Q →
  wpAny (model X.prog X.w) X.A (call f us) (EP X pins σ Q) X.xe s
def tOp(r:R2)(ta tb:TE):TE:=fun σ H Q=>ta σ H fun x H1=>tb σ H1 fun y H2=>r x y H2 Q
def tUn(r:V->Hp->VK->Prop)(ta:TE):TE:=fun σ H Q=>ta σ H fun x H1=>r x H1 Q
def rI(C:Int->Int->Prop)(g:Int->Int->V):R2:=fun x y H Q => ∃ i j,x = .int i/\y = .int j/\C i j/\Q (g i j) H
def MF(g:Int->Int->V):R2:=fun x y H Q => ∃ i j,x = .int i/\y = .int j/\Q (g i j) H
def rU(g:Int->V):V->Hp->VK->Prop:=fun x H Q => ∃ i,x = .int i/\Q (g i) H
section
variable{X:Cx}{a b c:Expr}{ta tb tc:TE}{pos:Pos}
theorem qAA(ha:PE X a ta)(hb:PE X b tb){pins:List (Addr × Obj)}{s:Shared}{σ:St}{H:Hp}{R:V->V->Hp->Prop}(I:Inv X pins σ H s)
  (h:ta σ H fun x H1=>tb σ H1 fun y H2=>R x y H2) {Q:Value->Shared->Prop} {f:Value->Value->Sem Value}
  (hf:∀ v u s2 x y H2,Inv X pins σ H2 s2->RelV x v->RelV y u->R x y H2->wpAny (model X.prog X.w) X.A (f v u) Q X.xe s2) :
  wpAny (model X.prog X.w) X.A (eval a X.env) (fun v s₁=>wpAny (model X.prog X.w) X.A (eval b X.env) (fun u s₂=>wpAny (model X.prog X.w) X.A (f v u) Q X.xe s₂) X.xe s₁) X.xe s:=by
 refine cA (ha pins s σ H _ I h) fun v s1 ⟨x,H1,I1,r1,q1⟩=>?_
 refine cA (hb pins s1 σ H1 _ I1 q1) fun u s2 ⟨y,H2,I2,r2,q2⟩=>?_
 exact hf v u s2 x y H2 I2 r1 r2 q2
theorem yC{op:Operator}{r:R2}(ho:mQ X (binaryOp op) r)(ha:PE X a ta)(hb:PE X b tb):PE X (.BinOp a op b pos) (tOp r ta tb):=by
 intro pins s σ H Q I h
 exact wpAny_BinOp (qAA ha hb I h fun v u s2 x y H2 I2 rx ry q=>ho pins s2 σ H2 x y v u Q I2 rx ry q)
theorem Qi{op:UnaryOp}{r:V->Hp->VK->Prop}(ho:UnR X (unaryOp op) r)(ha:PE X a ta):PE X (.UnaryOp op a pos) (tUn r ta):=by
 intro pins s σ H Q I h
 exact UnaryOp_ (cA (ha pins s σ H _ I h) fun v s1 ⟨x,H1,I1,r1,q1⟩=>ho pins s1 σ H1 x v Q I1 r1 q1)
theorem opI{f:Value->Value->Sem Value}{C:Int->Int->Prop}{g:Int->Int->Int}
  (rule:∀(i j:Int)(t u:Tok)(s:Shared)(Q:Value->Shared->Prop)(E:Value->Shared->Prop),C i j->Q (.int (g i j) s.toks) { s with toks:=s.toks+1 }->wpAny (model X.prog X.w) X.A (f (.int i t) (.int j u)) Q E s) :
  mQ X f (rI C fun i j=>.int (g i j)):=by
 intro pins s σ H x y v u Q I rx ry h
 obtain⟨i,j,rfl,rfl,hc,q⟩:=h
 obtain⟨t,rfl⟩:=rx
 obtain⟨t',rfl⟩:=ry
 exact rule i j t t' s _ _ hc ⟨.int (g i j),H,I.tok _,⟨_,rfl⟩,q⟩
theorem YD{f:Value->Value->Sem Value}{g:Int->Int->Int}
  (rule:∀(i j:Int)(t u:Tok)(s:Shared)(Q:Value->Shared->Prop)(E:Value->Shared->Prop),Q (.int (g i j) s.toks) { s with toks:=s.toks+1 }->wpAny (model X.prog X.w) X.A (f (.int i t) (.int j u)) Q E s) :
  mQ X f (MF fun i j=>.int (g i j)):=by
 intro pins s σ H x y v u Q I rx ry h
 obtain⟨i,j,rfl,rfl,q⟩:=h
 obtain⟨t,rfl⟩:=rx
 obtain⟨t',rfl⟩:=ry
 exact rule i j t t' s _ _ ⟨.int (g i j),H,I.tok _,⟨_,rfl⟩,q⟩
theorem VB{f:Value->Value->Sem Value}{g:Int->Int->Bool}
  (rule:∀(i j:Int)(t u:Tok)(s:Shared)(Q:Value->Shared->Prop)(E:Value->Shared->Prop),Q (.bool (g i j)) s->wpAny (model X.prog X.w) X.A (f (.int i t) (.int j u)) Q E s) :
  mQ X f (MF fun i j=>.bl (g i j)):=by
 intro pins s σ H x y v u Q I rx ry h
 obtain⟨i,j,rfl,rfl,q⟩:=h
 obtain⟨t,rfl⟩:=rx
 obtain⟨t',rfl⟩:=ry
 exact rule i j t t' s _ _ ⟨.bl (g i j),H,I,rfl,q⟩
def qEM(i j:Int):Prop:=0 < j/\j < 1073741824
def qEL(i j:Int):Prop:=0<=j/\j<=1000000/\i.natAbs < 2 ^ 64
def Wh(i j:Int):Prop:=(-(2 ^ 64) < i/\i < 2 ^ 64) ∨ (-(2 ^ 64) < j/\j < 2 ^ 64)
theorem Wh.ok{i j:Int}(h:Wh i j):IntMulOk i j:=by
 rcases h with ⟨h1,h2⟩ | ⟨h1,h2⟩
 ·exact .of_left (intBits_le_64 h1 h2)
 ·exact .of_right (intBits_le_64 h1 h2)
theorem Gw(k:Nat):(0:Int)<=2 ^ k:=by
 rw[two_pow_cast]
 exact Int.natCast_nonneg _
theorem yF:mQ X (binaryOp .Add) (MF fun i j=>.int (i+j)):=YD fun _ _ _ _ _ _ _ q=>add_int q
theorem kh:mQ X (binaryOp .Sub) (MF fun i j=>.int (i - j)):=YD fun _ _ _ _ _ _ _ q=>sub_int q
theorem gM:mQ X (binaryOp .Mult) (rI Wh fun i j=>.int (i * j)):=opI fun _ _ _ _ _ _ _ hc q=>mul_int q hc.ok
theorem yL:mQ X (binaryOp .FloorDiv) (rI qEM fun i j=>.int (i / j)):=opI fun i j _ _ _ _ _ hc q=>by
 have h1:(0:Int) < j:=hc.1
 have h2:j < 1073741824:=hc.2
 exact floordiv_int (by lia) (by rw[Int.fdiv_eq_ediv_of_nonneg i (by lia)];exact q) (.inl (PyProof.noPylong_small (by lia)))
theorem zY:mQ X (binaryOp .Mod) (rI (fun _ j=>0 < j) fun i j=>.int (i % j)):=opI fun i j _ _ _ _ _ hc q=>by
 have h1:(0:Int) < j:=hc
 exact mod_int' (by lia) (by rw[Int.fmod_eq_emod_of_nonneg i (by lia)];exact q)
theorem Hl:mQ X (binaryOp .Pow) (rI qEL fun i j=>.int (i ^ j.toNat)):=opI fun _ _ _ _ _ _ _ hc q=>pow_int_small hc.1 hc.2.1 hc.2.2 q
theorem YB:mQ X (binaryOp .RShift) (rI (fun _ j=>0<=j) fun i j=>.int (i / 2 ^ j.toNat)):=opI fun i j _ _ _ _ _ hc q=>
 rshift_int hc (by rw[Int.fdiv_eq_ediv_of_nonneg i (Gw _)];exact q)
theorem Qq:mQ X (binaryOp .BitAnd) (MF fun i j=>.int (Builtin.bitAnd i j)):=YD fun _ _ _ _ _ _ _ q=>and_int q
theorem unI{f:Value->Sem Value}{g:Int->Int}
  (rule:∀(i:Int)(t:Tok)(s:Shared)(Q:Value->Shared->Prop)(E:Value->Shared->Prop),Q (.int (g i) s.toks) { s with toks:=s.toks+1 }->wpAny (model X.prog X.w) X.A (f (.int i t)) Q E s) :
  UnR X f (rU fun i=>.int (g i)):=by
 intro pins s σ H x v Q I rx h
 obtain⟨i,rfl,q⟩:=h
 obtain⟨t,rfl⟩:=rx
 exact rule i t s _ _ ⟨.int (g i),H,I.tok _,⟨_,rfl⟩,q⟩
theorem Gv:UnR X (unaryOp .USub) (rU fun i=>.int (-i)):=unI fun _ _ _ _ _ q=>neg_int q
def Uo:V->V->Bool
 | .non,.non=>true | .non,.int _=>true | .int _,.non=>true | .non,.bl _=>true | .bl _,.non=>true | .non,.str _=>true | .str _,.non=>true
 | .int _,.int _=>true | .bl _,.bl _=>true | .str _,.str _=>true | .Ph _,.Ph _=>true
 | .int _,.str _=>true | .str _,.int _=>true | .bl _,.str _=>true | .str _,.bl _=>true
 | _,_=>false
def rEq:R2:=fun x y H Q=>Uo x y=true/\Q (.bl (decide (x=y))) H
def rNe:R2:=fun x y H Q=>Uo x y=true/\Q (.bl (!decide (x=y))) H
theorem LR{i j:Int}:decide (V.int i=V.int j)=(i == j):=by
 rw[Bool.eq_iff_iff]
 simp
theorem T7{i j:Bool}:decide (V.bl i=V.bl j)=(i == j):=by
 rw[Bool.eq_iff_iff]
 simp
theorem LQ{i j:Str}:decide (V.str i=V.str j)=(i == j):=by
 rw[Bool.eq_iff_iff]
 simp
theorem La{i j:Array UInt8}:decide (V.Ph i=V.Ph j)=(i.toList == j.toList):=by
 rw[Bool.eq_iff_iff]
 cases i
 cases j
 simp
theorem bO{pins:List (Addr × Obj)}{σ:St}{H:Hp}{s:Shared}{Q:VK}{k k':Bool}(I:Inv X pins σ H s)(q:Q (.bl k) H)(e:k=k'):EP X pins σ Q (.bool k') s:=by
 subst e
 exact⟨.bl k,H,I,rfl,q⟩
theorem yG:mQ X (compareOp .Eq) rEq:=by
 intro pins s σ H x y v u Q I rx ry h
 obtain⟨hs,q⟩:=h
 cases x with
 | non=>
  cases rx
  cases y with
  | non=>cases ry;exact PySem.EqNone.eq_none_none (bO I q (by simp))
  | bl j=>cases ry;exact PySem.EqNone.eq_none_bool (bO I q (by simp))
  | int j=>obtain⟨t',rfl⟩:=ry;exact PySem.EqNone.eq_none_int (bO I q (by simp))
  | str j=>obtain⟨t',rfl⟩:=ry;exact PySem.EqNone.eq_none_str (bO I q (by simp))
  | _=>exact absurd (show false=true from hs) mU
 | bl i=>
  cases rx
  cases y with
  | non=>cases ry;exact PySem.EqNone.eq_bool_none (bO I q (by simp))
  | bl j=>cases ry;exact eq_bool (bO I q T7)
  | str j=>obtain⟨t',rfl⟩:=ry;exact PySem.EqMixed.eq_bool_str (bO I q (by simp))
  | _=>exact absurd (show false=true from hs) mU
 | int i=>
  obtain⟨t,rfl⟩:=rx
  cases y with
  | non=>cases ry;exact PySem.EqNone.eq_int_none (bO I q (by simp))
  | int j=>obtain⟨t',rfl⟩:=ry;exact eq_int (bO I q LR)
  | str j=>obtain⟨t',rfl⟩:=ry;exact PySem.EqMixed.eq_int_str (bO I q (by simp))
  | _=>exact absurd (show false=true from hs) mU
 | str i=>
  obtain⟨t,rfl⟩:=rx
  cases y with
  | non=>cases ry;exact PySem.EqNone.eq_str_none (bO I q (by simp))
  | bl j=>cases ry;exact PySem.EqMixed.eq_str_bool (bO I q (by simp))
  | int j=>obtain⟨t',rfl⟩:=ry;exact PySem.EqMixed.eq_str_int (bO I q (by simp))
  | str j=>obtain⟨t',rfl⟩:=ry;exact eq_str (bO I q LQ)
  | _=>exact absurd (show false=true from hs) mU
 | Ph i=>
  obtain⟨t,rfl⟩:=rx
  cases y with
  | Ph j=>obtain⟨t',rfl⟩:=ry;exact PySem.W.eq_bytes (bO I q La)
  | _=>exact absurd (show false=true from hs) mU
 | _=>cases y <;> exact absurd (show false=true from hs) mU
theorem Ez:mQ X (compareOp .NotEq) rNe:=by
 intro pins s σ H x y v u Q I rx ry h
 obtain⟨hs,q⟩:=h
 cases x with
 | non=>
  cases rx
  cases y with
  | non=>cases ry;exact PySem.EqNone.ne_none_none (bO I q (by simp))
  | bl j=>cases ry;exact PySem.EqNone.ne_none_bool (bO I q (by simp))
  | int j=>obtain⟨t',rfl⟩:=ry;exact PySem.EqNone.ne_none_int (bO I q (by simp))
  | str j=>obtain⟨t',rfl⟩:=ry;exact PySem.EqNone.ne_none_str (bO I q (by simp))
  | _=>exact absurd (show false=true from hs) mU
 | bl i=>
  cases rx
  cases y with
  | non=>cases ry;exact PySem.EqNone.ne_bool_none (bO I q (by simp))
  | bl j=>cases ry;exact ne_bool (bO I q (congrArg not T7))
  | str j=>obtain⟨t',rfl⟩:=ry;exact PySem.EqMixed.ne_bool_str (bO I q (by simp))
  | _=>exact absurd (show false=true from hs) mU
 | int i=>
  obtain⟨t,rfl⟩:=rx
  cases y with
  | non=>cases ry;exact PySem.EqNone.ne_int_none (bO I q (by simp))
  | int j=>obtain⟨t',rfl⟩:=ry;exact ne_int (bO I q (congrArg not LR))
  | str j=>obtain⟨t',rfl⟩:=ry;exact PySem.EqMixed.ne_int_str (bO I q (by simp))
  | _=>exact absurd (show false=true from hs) mU
 | str i=>
  obtain⟨t,rfl⟩:=rx
  cases y with
  | non=>cases ry;exact PySem.EqNone.ne_str_none (bO I q (by simp))
  | bl j=>cases ry;exact PySem.EqMixed.ne_str_bool (bO I q (by simp))
  | int j=>obtain⟨t',rfl⟩:=ry;exact PySem.EqMixed.ne_str_int (bO I q (by simp))
  | str j=>obtain⟨t',rfl⟩:=ry;exact ne_str (bO I q (congrArg not LQ))
  | _=>exact absurd (show false=true from hs) mU
 | Ph i=>
  obtain⟨t,rfl⟩:=rx
  cases y with
  | Ph j=>obtain⟨t',rfl⟩:=ry;exact PySem.W.ne_bytes (bO I q (congrArg not La))
  | _=>exact absurd (show false=true from hs) mU
 | _=>cases y <;> exact absurd (show false=true from hs) mU
theorem lQ:mQ X (compareOp .Lt) (MF fun i j=>.bl (decide (i < j))):=VB fun _ _ _ _ _ _ _ q=>lt_int q
theorem Qo:mQ X (compareOp .LtE) (MF fun i j=>.bl (decide (i<=j))):=VB fun _ _ _ _ _ _ _ q=>le_int q
theorem fY:mQ X (compareOp .Gt) (MF fun i j=>.bl (decide (j < i))):=VB fun _ _ _ _ _ _ _ q=>gt_int q
theorem Wu:mQ X (compareOp .GtE) (MF fun i j=>.bl (decide (j<=i))):=VB fun _ _ _ _ _ _ _ q=>ge_int q
theorem CJ:mQ X (compareOp .Is) (fun x y H Q=>y = .non/\Q (.bl (decide (x = .non))) H):=by
 intro pins s σ H x y v u Q I rx ry h
 obtain⟨rfl,q⟩:=h
 cases ry
 refine is_none_gen (bO I q ?_)
 cases x <;> first
  | (cases rx;rfl)
  | (obtain⟨t,rfl⟩:=rx;rfl)
theorem CG:mQ X (compareOp .IsNot) (fun x y H Q=>y = .non/\Q (.bl (!decide (x = .non))) H):=by
 intro pins s σ H x y v u Q I rx ry h
 obtain⟨rfl,q⟩:=h
 cases ry
 refine isnot_none_gen (bO I q ?_)
 cases x <;> first
  | (cases rx;rfl)
  | (obtain⟨t,rfl⟩:=rx;rfl)
theorem mQ.or{f:Value->Value->Sem Value}{r r':R2}(h:mQ X f r)(h':mQ X f r'):mQ X f (fun x y H Q=>r x y H Q ∨ r' x y H Q):=by
 intro pins s σ H x y v u Q I rx ry q
 rcases q with q | q
 ·exact h pins s σ H x y v u Q I rx ry q
 ·exact h' pins s σ H x y v u Q I rx ry q
theorem zR(b:Expr){op:CmpOp}(h:op ≠ .In:=by decide)(h2:op ≠ .NotIn:=by decide):behindInMarks op b=false:=by
 have e1:(op == CmpOp.In)=false:=by cases op <;> first | rfl | exact absurd rfl h
 have e2:(op == CmpOp.NotIn)=false:=by cases op <;> first | rfl | exact absurd rfl h2
 cases b <;> simp [behindInMarks,e1,e2]
theorem gK{op:CmpOp}{r:R2}(ho:mQ X (compareOp op) r)(ha:PE X a ta)(hb:PE X b tb)(hm:behindInMarks op b=false):PE X (.Compare a [op] [b] pos) (tOp r ta tb):=by
 intro pins s σ H Q I h
 exact wpAny_Compare1 (qAA ha hb I h fun v u s2 x y H2 I2 rx ry q=>ho pins s2 σ H2 x y v u Q I2 rx ry q) hm
def Wj(t:TE):TT:=fun σ H Q=>t σ H fun x H' => ∃ k,x = .bl k/\Q k H'
theorem zL{op:CmpOp}{r:R2}(ho:mQ X (compareOp op) r)(ha:PE X a ta)(hb:PE X b tb)(hm:behindInMarks op b=false):PT X (.Compare a [op] [b] pos) (Wj (tOp r ta tb)):=by
 intro pins s σ H Q I h
 refine wpAny_isTrue_Compare1 (cA (ha pins s σ H _ I h) fun v s1 ⟨x,H1,I1,r1,q1⟩=>cA (hb pins s1 σ H1 _ I1 q1) fun u s2 ⟨y,H2,I2,r2,q2⟩=>
  cA (ho pins s2 σ H2 x y v u _ I2 r1 r2 q2) fun c s3 ⟨z,H3,I3,r3,k,e,q3⟩=>?_) hm
 subst e
 cases r3
 exact wpAny_truthy_bool ⟨H3,I3,q3⟩
def Xj(r r':R2)(ta tb tc:TE):TE:=fun σ H Q=>ta σ H fun x H1=>tb σ H1 fun y H2=>r x y H2 fun z H3 => ∃ k,z = .bl k ∧
 (if k=true then tc σ H3 fun w' H4=>r' y w' H4 Q else Q (.bl false) H3)
theorem Qk{op op':CmpOp}{r r':R2}(ho:mQ X (compareOp op) r)(ho':mQ X (compareOp op') r')(ha:PE X a ta)(hb:PE X b tb)(hc:PE X c tc)
  (hm:lastMarks [op,op'] [b,c]=false:=by with_unfolding_all rfl):PE X (.Compare a [op,op'] [b,c] pos) (Xj r r' ta tb tc):=by
 intro pins s σ H Q I h
 refine Compare_chain (cA (ha pins s σ H _ I h) fun v s1 ⟨x,H1,I1,r1,q1⟩=>chain_link (cA (hb pins s1 σ H1 _ I1 q1) fun u s2 ⟨y,H2,I2,r2,q2⟩=>
  cA (ho pins s2 σ H2 x y v u _ I2 r1 r2 q2) fun d s3 ⟨z,H3,I3,r3,k,e,q3⟩=>?_)) hm
 subst e
 cases r3
 refine wpAny_truthy_bool ?_
 cases k with
 | false=>exact ite_ff ⟨.bl false,H3,I3,rfl,q3⟩
 | true=>exact ite_tt (chain_last (cA (hc pins s3 σ H3 _ I3 q3) fun w' s4 ⟨z',H4,I4,r4,q4⟩=>ho' pins s4 σ H4 y z' u w' Q I4 r2 r4 q4))
theorem pO:(sizeLine:Nat) < 2 ^ 63:=by rw[sizeLine_eq];decide
theorem xG:mQ X (binaryOp .Add) (fun x y H Q => ∃ i j,x = .str i/\y = .str j/\i.length+j.length<=sizeLine/\Q (.str (i++j)) H):=by
 intro pins s σ H x y v u Q I rx ry h
 obtain⟨i,j,rfl,rfl,hz,q⟩:=h
 obtain⟨t,rfl⟩:=rx
 obtain⟨t',rfl⟩:=ry
 exact add_str (fun t' tk=>⟨.str (i++j),H,I.tok _,⟨_,rfl⟩,q⟩) hz
theorem vals1{x:V}{us:List Value}(r:Vals [x] us):∃ u,us=[u]/\RelV x u:=by
 cases r with
 | cons r1 r2=>cases r2;exact⟨_,rfl,r1⟩
theorem vals2{x y:V}{us:List Value}(r:Vals [x,y] us):∃ u w',us=[u,w']/\RelV x u/\RelV y w':=by
 cases r with
 | cons r1 r2=>
  cases r2 with
  | cons r3 r4=>cases r4;exact⟨_,_,rfl,r1,r3⟩
theorem Oc(hc:X.calm=true):mL X (.builtin "max") (fun xs H Q => ∃ i j,xs=[.int i,.int j]/\Q (.int (if j > i then j else i)) H):=by
 intro pins s σ H xs us Q I r h
 obtain⟨i,j,rfl,q⟩:=h
 obtain⟨u,w',rfl,⟨t,rfl⟩,⟨t',rfl⟩⟩:=vals2 r
 refine max_two_ints (I.ok.hd hc) fun h' tk k=>⟨_,H,I.kept k,?_,q⟩
 by_cases hj:j > i
 ·rw[if_pos hj,if_pos hj];exact⟨_,rfl⟩
 ·rw[if_neg hj,if_neg hj];exact⟨_,rfl⟩
theorem BK(hc:X.calm=true):mL X (.builtin "min") (fun xs H Q => ∃ i j,xs=[.int i,.int j]/\Q (.int (if j < i then j else i)) H):=by
 intro pins s σ H xs us Q I r h
 obtain⟨i,j,rfl,q⟩:=h
 obtain⟨u,w',rfl,⟨t,rfl⟩,⟨t',rfl⟩⟩:=vals2 r
 refine min_two_ints (I.ok.hd hc) fun h' tk k=>⟨_,H,I.kept k,?_,q⟩
 by_cases hj:j < i
 ·rw[if_pos hj,if_pos hj];exact⟨_,rfl⟩
 ·rw[if_neg hj,if_neg hj];exact⟨_,rfl⟩
theorem uV:mL X (.type "int") (fun xs H Q=>(∃ i,xs=[.int i]/\Q (.int i) H) ∨ ∃ k,xs=[.bl k]/\Q (.int (if k then 1 else 0)) H):=by
 intro pins s σ H xs us Q I r h
 rcases h with ⟨i,rfl,q⟩ | ⟨k,rfl,q⟩
 ·obtain⟨u,rfl,t,rfl⟩:=vals1 r
  exact call_int_int ⟨.int i,H,I,⟨_,rfl⟩,q⟩
 ·obtain⟨u,rfl,r1⟩:=vals1 r
  cases r1
  exact call_int_bool ⟨.int (if k then 1 else 0),H,I.tok _,⟨_,rfl⟩,q⟩
end
structure Jc(h:Heap)(x dx C:Addr)(mA:Str->Option Value):Prop where
 obj:h.get? x=some (PySem.W.instObj C dx)
 ns:h.Ns1 dx mA
 ne:dx ≠ x
theorem NP{h:Heap}{dx:Addr}{mA:Str->Option Value}(n:h.Ns1 dx mA):∃ od,h.get? dx=some od/\∀ name,PySem.W.lookIn name od=some (mA name):=by
 obtain⟨o,es,ep,ho,hd,hk,_,hm⟩:=n
 refine⟨o,ho,fun name=>?_⟩
 have e:=hm name
 unfold nsFind findBy at e
 rw[<-Array.find?_toList]at e
 unfold PySem.W.lookIn
 rw[hd]
 dsimp only
 split
 ·rename_i y q
  rw[q]at e
  exact congrArg some e
 ·rename_i q
  rw[q]at e
  have a:es.toList.any (·.refKey)=false:=by
   rw[List.any_eq_false]
   intro y hy
   obtain⟨z,t,hkey⟩:=hk y (Array.mem_toList_iff.mp hy)
   simp [DictEntry.refKey,hkey]
  have a':¬ es.toList.any (·.refKey)=true:=by rw[a];exact mU
  rw[if_neg a']
  exact congrArg some e
theorem Jc.look{h:Heap}{x dx C:Addr}{mA:Str->Option Value}(I:Jc h x dx C mA):∃ od,PySem.W.InstAt h x (PySem.W.instObj C dx) C (some od)/\∀ name,PySem.W.lookIn name od=some (mA name):=
 let ⟨od,ho,hl⟩:=NP I.ns
 ⟨od,⟨I.obj,rfl,rfl,ho⟩,hl⟩
section
variable{prog:Program}{w:World}{A:Around}{E:Value->Shared->Prop}{s:Shared}{K:PySem.W.Frag}{x dx C f:Addr}{mA:Str->Option Value}{name:Str}{v:Value}
theorem get_map{expr:Bool}{Q:Value->Shared->Prop}(X:K.In s.heap)(I:Jc s.heap x dx C mA)(hg:PySem.W.plainGet K C name=true)(hh:PySem.W.hasDictIn K C=true)
  (ha:PySem.W.findIn K (.ref C) name=some none) (hv:mA name=some v) (hv':PySem.W.handedIn v=true) (h:Q v { s with toks:=s.toks+1 }) :
  wpAny (model prog w) A (getAttr (.ref x) name expr) Q E s:=by
 obtain⟨od,J,hl⟩:=I.look
 exact PySem.W.get_value X J (PySem.W.plainGet_of hg).1 (PySem.W.findObj_own hh ha rfl (by rw[hl,hv])) hv' h
theorem SX{pl:Sem Bool}{Q:Value × List Value->Shared->Prop}(X:K.In s.heap)(I:Jc s.heap x dx C mA)(hg:PySem.W.plainGet K C name=true)
  (hf:PySem.W.findIn K (.ref C) name=some (some (.ref f))) (ht:PySem.W.isFn K (.ref f)=true) (hv:mA name=none) (h:Q (.ref f,[.ref x]) s) :
  wpAny (model prog w) A (getMethod (.ref x) name pl) Q E s:=by
 obtain⟨od,J,hl⟩:=I.look
 exact PySem.W.method_fn X J (PySem.W.plainGet_of hg).1 (PySem.W.plainGet_of hg).2 hf (beq_iff_eq.mp ht) (by show (PySem.W.lookIn name od).map (·.isSome)=some false;rw[hl,hv];rfl) h
theorem Ul{ns:List Str}{Q:Unit->Shared->Prop}(X:K.In s.heap)(I:Jc s.heap x dx C mA)
  (hs:PySem.W.findIn K (.ref C) "__setattr__" = some (some (.builtin "object.__setattr__"))) (hp:PySem.W.plainOver K C=true) (ht:PySem.W.takerIn K C name=some none) (hh:PySem.W.hasDictIn K C=true)
  (hw:PySem.Within mA ns) (hsz:ns.length<=sizeLine)
  (h:∀ h',Jc h' x dx C (fun y=>if y=name then some v else mA y)->Heap.SameBut dx s.heap h'->Q () { s with heap:=h',toks:=s.toks+2 }) :
  wpAny (model prog w) A (setAttr (.ref x) name v) Q E s:=by
 obtain⟨od,J,hl⟩:=I.look
 refine PySem.W.set_plain X J hs (PySem.W.osa_open (s:={ s with toks:=s.toks+1 }) (r:=none) X J hp ht fun b=>?_)
 obtain⟨cd,hc,hd'⟩:=PySem.W.any_some hh
 have hx:s.heap.get? x=some ⟨.ref C,some dx,.plain,#[]⟩:=I.obj
 refine wpAny_bind (wpAny_pure (wpAny_bind (wpAny_bind (wpAny_loadPart hx (wpAny_bind (PySem.W.Looks.here (s:={ s with toks:=s.toks+1 }) (PySem.W.looks_clsIn X hc) ?_))))))
 rw[hd']
 refine wpAny_pure (a:=some dx) (wpAny_bind (wpAny_pure (wpAny_bind ?_)))
 refine wpAny_nsSet1 (s:={ s with toks:=s.toks+1 }) I.ns fun h' hn2 hs2=>?_
 obtain⟨oD,esD,epD,hoD,hdD,hcD⟩:=hn2.count (PySem.Within.cons name v hw)
 refine wpAny_bind (wpAny_lookBehind hoD (by rw[hdD];exact pastItsLine_dict (Nat.le_trans hcD (by rw[gC];lia))) ?_)
 exact wpAny_pure (h _ ⟨(hs2.2 _ (Ne.symm I.ne)).trans I.obj,hn2,I.ne⟩ hs2)
theorem RX{R:Result->Shared->Prop}{vs:List Value}{kw:List (Str × Value)}(X:K.In s.heap)(hm:PySem.W.makesIn K C=true)
  (hi:PySem.W.findIn K (.ref C) "__init__" = some (some (.ref f))) (hf:PySem.W.typeIn K (.ref f)=some (.type "function"))
  (h:codeAny (model prog w) (A.under (.builtin "type.__call__" ⟨.ref C :: vs,kw⟩)) (.call (.ref f) ⟨.ref (s.heap.objs.size+1) :: vs,kw⟩) (PySem.W.InitBack (s.heap.objs.size+1) R)
   { s with heap:=(s.heap.push PySem.W.emptyDict).push (PySem.W.instObj C s.heap.objs.size) }) :
  codeAny (model prog w) A (.call (.ref C) ⟨vs,kw⟩) R s:=by
 obtain⟨hh,g,d,t,os⟩:=s
 exact PySem.W.make_core (PySem.W.makes_of X hm) (PySem.W.looks_findIn X hi) (fun self=>PySem.W.bind_fn X self hf) (.inl rfl) h
end
def oY(f:Str)(v:V):List (Str × V)->List (Str × V)
 | []=>[(f,v)]
 | (g,x) :: r=>if g=f then (g,v) :: r else (g,x) :: oY f v r
theorem dY(f g:Str)(v:V):∀ fs:List (Str × V),(oY f v fs).lookup g=if g=f then some v else fs.lookup g
 | []=>by
  show List.lookup g [(f,v)]=_
  by_cases h:g=f
  ·have hb:(g == f)=true:=beq_iff_eq.mpr h
   simp only[List.lookup,hb,if_pos h]
  ·have hb:(g == f)=false:=beq_eq_false_iff_ne.mpr h
   simp only[List.lookup,hb,if_neg h]
 | (k,x) :: r=>by
  have ih:=dY f g v r
  rw[show oY f v ((k,x) :: r)=(if k=f then (k,v) :: r else (k,x) :: oY f v r) from rfl]
  by_cases hk:k=f
  ·rw[if_pos hk]
   by_cases h:g=k
   ·have hb:(g == k)=true:=beq_iff_eq.mpr h
    simp only[List.lookup,hb,if_pos (h.trans hk)]
   ·have hb:(g == k)=false:=beq_eq_false_iff_ne.mpr h
    simp only[List.lookup,hb,if_neg (fun e:g=f=>h (e.trans hk.symm))]
  ·rw[if_neg hk]
   by_cases h:g=k
   ·have hb:(g == k)=true:=beq_iff_eq.mpr h
    simp only[List.lookup,hb,if_neg (fun e:g=f=>hk (h.symm.trans e))]
   ·have hb:(g == k)=false:=beq_eq_false_iff_ne.mpr h
    simp only[List.lookup,hb]
    exact ih
theorem uO(f:Str)(v:V):∀ fs:List (Str × V),f∈(oY f v fs).map (·.1)/\∀ g,g∈fs.map (·.1)->g∈(oY f v fs).map (·.1)
 | []=>⟨by simp [oY],fun g h=>by simp at h⟩
 | (k,x) :: r=>by
  obtain⟨i1,i2⟩:=uO f v r
  rw[show oY f v ((k,x) :: r)=(if k=f then (k,v) :: r else (k,x) :: oY f v r) from rfl]
  by_cases hk:k=f
  ·rw[if_pos hk]
   subst hk
   exact⟨by simp,fun g h=>by simpa using h⟩
  ·rw[if_neg hk]
   refine⟨?_,fun g h=>?_⟩
   ·rw[List.map_cons]
    exact List.mem_cons_of_mem _ i1
   ·rw[List.map_cons]at h ⊢
    rcases dG.mp h with e | e
    ·exact dG.mpr (.inl e)
    ·exact List.mem_cons_of_mem _ (i2 g e)
theorem uq(f:Str)(v:V):∀ fs:List (Str × V),(oY f v fs).length<=fs.length+1
 | []=>by simp [oY]
 | (k,x) :: r=>by
  have ih:=uq f v r
  rw[show oY f v ((k,x) :: r)=(if k=f then (k,v) :: r else (k,x) :: oY f v r) from rfl]
  by_cases hk:k=f
  ·rw[if_pos hk,gC,gC];lia
  ·rw[if_neg hk,gC,gC];lia
theorem qg.some_of{v:V}{o:Option Value}(r:qg (some v) o):∃ u,o=some u/\RelV v u:=by
 cases o with
 | none=>exact (show False from r).elim
 | some u=>exact⟨u,rfl,r⟩
theorem qg.none_of{o:Option Value}(r:qg none o):o=none:=by
 cases o with
 | none=>rfl
 | some u=>exact (show False from r).elim
theorem O4{v:V}{u:Value}(r:RelV v u):PySem.W.handedIn u=true:=by
 cases v with
 | non=>cases (show u=Value.none from r);rfl
 | bl b=>cases (show u=Value.bool b from r);rfl
 | int i=>obtain⟨t,e⟩:=(show ∃ t,u=Value.int i t from r);cases e;rfl
 | str x=>obtain⟨t,e⟩:=(show ∃ t,u=Value.str x t from r);cases e;rfl
 | Ph b=>obtain⟨t,e⟩:=(show ∃ t,u=Value.bytes b t from r);cases e;rfl
 | flt b=>obtain⟨t,e⟩:=(show ∃ t,u=Value.float b t from r);cases e;rfl
 | ref a=>cases (show u=Value.ref a from r);rfl
 | ty n=>cases (show u=Value.type n from r);rfl
section
variable{P:Program}{w:World}{H H':Hp}{h h':Heap}{a C dx:Addr}{fs fs':List (Str × V)}
theorem vp(hok:qW P w H h)(e:H a=some (.ins C dx fs)):∃ mA,Jc h a dx C mA/\(∀ f,qg (fs.lookup f) (mA f))/\PySem.Within mA (fs.map (·.1))/\fs.length<=1000/\H dx=some (.own a):=by
 obtain⟨d,z,ne,ob,mA,n,r,q⟩:=(show cV P w H h a (.ins C dx fs) from hok a _ e)
 exact⟨mA,⟨ob,n,ne⟩,r,q,z,d⟩
end
structure Dt(K:PySem.W.Frag)(C:Addr):Prop where
 pg:PySem.W.plainGet K C Str.empty=true
 hd:PySem.W.hasDictIn K C=true
 po:PySem.W.plainOver K C=true
 sa:PySem.W.findIn K (.ref C) "__setattr__" = some (some (.builtin "object.__setattr__"))
theorem Dt.get{K:PySem.W.Frag}{C:Addr}(c:Dt K C)(f:Str):PySem.W.plainGet K C f=true:=c.pg
def iy(K:PySem.W.Frag)(C:Addr)(f:Str):Prop:=PySem.W.findIn K (.ref C) f=some none
theorem iy.taker{K:PySem.W.Frag}{C:Addr}{f:Str}(n:iy K C f):PySem.W.takerIn K C f=some none:=by
 unfold PySem.W.takerIn
 rw[show PySem.W.findIn K (.ref C) f=some none from n]
 rfl
structure Con(K:PySem.W.Frag)(C:Addr)(f:Str)(v:V)(u:Value):Prop where
 at_:PySem.W.findIn K (.ref C) f=some (some u)
 rel:RelV v u
 get:PySem.W.specialIn K u "__get__" = some none
 cp:PySem.W.copiedNames.contains f=false
structure Meth(K:PySem.W.Frag)(C:Addr)(m:Str)(f:Addr):Prop where
 at_:PySem.W.findIn K (.ref C) m=some (some (.ref f))
 fn:PySem.W.isFn K (.ref f)=true
 kp:KI K f
section
variable{X:Cx}{pins:List (Addr × Obj)}{σ:St}{H:Hp}{s:Shared}{a C dx:Addr}{fs:List (Str × V)}{f:Str}{v:V}{A:Around}{E:Value->Shared->Prop}
theorem JC{b:Bool}{Q:Value->Shared->Prop}(I:Inv X pins σ H s)(e:H a=some (.ins C dx fs))(c:Dt X.K C)(n:iy X.K C f)(l:fs.lookup f=some v)
  (h:∀ u s',Inv X pins σ H s'->RelV v u->Q u s'):wpAny (model X.prog X.w) A (getAttr (.ref a) f b) Q E s:=by
 obtain⟨mA,O,r,_,_,_⟩:=vp I.hok e
 obtain⟨u,hu,ru⟩:=qg.some_of (v:=v) (o:=mA f) (by rw[<-l];exact r f)
 exact get_map I.vC O (c.get f) c.hd n hu (O4 ru) (h u _ (I.tok _) ru)
theorem xW{m:Str}{g:Addr}{pl:Sem Bool}{Q:Value × List Value->Shared->Prop}(I:Inv X pins σ H s)(e:H a=some (.ins C dx fs))(c:Dt X.K C)(k:Meth X.K C m g)(l:fs.lookup m=none)
  (h:Q (.ref g,[.ref a]) s):wpAny (model X.prog X.w) A (getMethod (.ref a) m pl) Q E s:=by
 obtain⟨mA,O,r,_,_,_⟩:=vp I.hok e
 have hn:mA m=none:=qg.none_of (by rw[<-l];exact r m)
 exact SX I.vC O (c.get m) k.at_ k.fn hn h
theorem HW{y:V}{u:Value}{Q:Unit->Shared->Prop}(I:Inv X pins σ H s)(e:H a=some (.ins C dx fs))(c:Dt X.K C)(n:iy X.K C f)(hl:fs.length < 1000)(ry:RelV y u)
  (h:∀ s',Inv X pins σ (upd H a (.ins C dx (oY f y fs))) s'->Q () s'):wpAny (model X.prog X.w) A (setAttr (.ref a) f u) Q E s:=by
 obtain⟨mA,O,r,wi,_,ho⟩:=vp I.hok e
 have hz:(fs.map (·.1)).length<=sizeLine:=by rw[cM,sizeLine_eq];lia
 refine Ul I.vC O c.sa c.po n.taker c.hd wi hz fun h' O' sb=>h _ ?_
 have hd:∃ o,h'.get? dx=some o:=let ⟨o,_,_,e',_⟩:=O'.ns;⟨o,e'⟩
 refine I.write (x:=a) (e:=dx) (by rw[e];exact True.intro) (.inr ho) (fun b q hb z=>(sb.2 b hb).trans z) hd ?_
 refine⟨by rw[zQ O.ne];exact ho,?_,O.ne,O'.obj,_,O'.ns,fun g=>?_,fun g hg=>?_⟩
 ·have:=uq f y fs;lia
 ·show qg ((oY f y fs).lookup g) (if g=f then some u else mA g)
  rw[dY]
  by_cases q:g=f
  ·rw[if_pos q,if_pos q];exact ry
  ·rw[if_neg q,if_neg q];exact r g
 ·by_cases q:g=f
  ·rw[q];exact (uO f y fs).1
  ·refine (uO f y fs).2 g (wi g fun z=>hg ?_)
   show (if g=f then some u else mA g)=none
   rw[if_neg q];exact z
theorem Inv.made(I:Inv X pins σ H s):Inv X pins σ (upd (upd H s.heap.objs.size (.own (s.heap.objs.size+1))) (s.heap.objs.size+1) (.ins C s.heap.objs.size []))
  { s with heap:=(s.heap.push PySem.W.emptyDict).push (PySem.W.instObj C s.heap.objs.size) }:=by
 have e1:(s.heap.push PySem.W.emptyDict).get? s.heap.objs.size=some PySem.W.emptyDict:=Heap.get?_push_size s.heap rfl
 have e2:((s.heap.push PySem.W.emptyDict).push (PySem.W.instObj C s.heap.objs.size)).get? (s.heap.objs.size+1)=some (PySem.W.instObj C s.heap.objs.size):=by
  have:=Heap.get?_push_size (s.heap.push PySem.W.emptyDict) (o:=PySem.W.instObj C s.heap.objs.size) rfl
  rwa [Heap.size_push]at this
 have e3:(s.heap.push PySem.W.emptyDict).Ns s.heap.objs.size (fun _=>none):=⟨PySem.W.emptyDict,#[],_,e1,rfl,(fun e he=>absurd he (by simp)),fun _=>rfl⟩
 have I1:=I.laid (a:=s.heap.objs.size) (o:=.own (s.heap.objs.size+1)) (h':=s.heap.push PySem.W.emptyDict) (t':=s.toks) (fun b u q=>Heap.get?_push_of_some _ q) (bu _) ⟨_,e1⟩
 refine I1.laid (a:=s.heap.objs.size+1) (o:=.ins C s.heap.objs.size []) (t':=s.toks) (fun b u q=>Heap.get?_push_of_some _ q) (Nat.le_of_eq (Heap.size_push _ _)) ?_
 have ne:s.heap.objs.size ≠ s.heap.objs.size+1:=Nat.ne_of_lt (Nat.lt_succ_self _)
 refine⟨by rw[zQ ne,zC],Nat.zero_le _,ne,e2,fun _=>none,(Heap.Ns1.of_empty e3).at fun o q=>Heap.get?_push_of_some _ q,fun _=>True.intro,fun y hy=>absurd rfl hy⟩
theorem WK{prog:Program}{w:World}{env:Env}{e:Expr}{f:Str}{pos:Pos}{s:Shared}{Q:Value->Shared->Prop}(hb:attributeBase e f env (eval e env)=eval e env)
  (h:wpAny (model prog w) A (eval e env) (fun o s₁=>wpAny (model prog w) A (getAttr o f true) Q E s₁) E s):wpAny (model prog w) A (eval (.Attribute e f pos) env) Q E s:=
 Attribute_any_ h (by rw[arm_eval_Attribute,hb])
end
def qCO(K:PySem.W.Frag)(ta:TE)(f:Str):TE:=fun σ H Q=>ta σ H fun x H1 => ∃ a C dx fs v,x = .ref a/\H1 a=some (.ins C dx fs)/\Dt K C/\iy K C f/\fs.lookup f=some v/\Q v H1
def qCV(K:PySem.W.Frag)(ta tv:TE)(f:Str):TS:=fun D σ H=>tv σ H fun y H1=>ta σ H1 fun x H2 => ∃ a C dx fs,x = .ref a/\H2 a=some (.ins C dx fs)/\Dt K C/\iy K C f/\fs.length < 1000 ∧
 D.nx σ (upd H2 a (.ins C dx (oY f y fs)))
section
variable{X:Cx}{o e value:Expr}{f:Str}{pos pos' tpos:Pos}{ta tv:TE}
theorem uL(he:PE X e ta)(hb:attributeBase e f X.env (eval e X.env)=eval e X.env):PE X (.Attribute e f pos) (qCO X.K ta f):=by
 intro pins s σ H Q I h
 refine WK hb (cA (he pins s σ H _ I h) fun u s1 ⟨x,H1,I1,rx,a,C,dx,fs,v,ex,ea,c,n,l,q⟩=>?_)
 subst ex
 obtain rfl:u=Value.ref a:=rx
 exact JC I1 ea c n l fun u' s2 I2 ru=>⟨v,H1,I2,ru,q⟩
theorem Qe(ha:PE X o ta)(hv:PE X value tv)(hs:swapsWith value (some (.Attribute o f pos')) pos.line X.env=pure false):PS X (.Assign [.Attribute o f pos'] value pos) (qCV X.K ta tv f):=by
 intro pins s σ H D I h
 refine plainObj_wpAny_Assign_Attribute (cA (hv pins s σ H _ I h) fun u s1 ⟨y,H1,I1,ry,q⟩=>cA (ha pins s1 σ H1 _ I1 q) fun ov s2 ⟨x,H2,I2,rx,a,C,dx,fs,ex,ea,c,n,l,q2⟩=>?_) hs
 subst ex
 obtain rfl:ov=Value.ref a:=rx
 exact HW I2 ea c n l ry fun s3 I3=>⟨σ,_,I3,q2⟩
end
section
variable{X:Cx}{pins:List (Addr × Obj)}{σ:St}{H:Hp}{s:Shared}{A:Around}{E:Value->Shared->Prop}{Q:Value->Shared->Prop}{c:Value}{b:Bool}
inductive uX(K:PySem.W.Frag)(H:Hp):V->Value->Prop where
 | non:uX K H .non (.type "NoneType")
 | bl (x:Bool):uX K H (.bl x) (.type "bool")
 | int (i:Int):uX K H (.int i) (.type "int")
 | str (x:Str):uX K H (.str x) (.type "str")
 | flt (x:UInt64):uX K H (.flt x) (.type "float")
 | lst {a:Addr} {xs:List V} (e:H a=some (.lst xs)):uX K H (.ref a) (.type "list")
 | Kw {a:Addr} {o:Obj} {xs:List V} (e:H a=some (.Kw o (.lst xs))):uX K H (.ref a) (.type "list")
 | tup {a:Addr} {xs:List V} (e:H a=some (.tup xs)):uX K H (.ref a) (.type "tuple")
 | dK {a:Addr} {kvs:List (Key × V)} (e:H a=some (.dK kvs)):uX K H (.ref a) (.type "dict")
 | dT {a:Addr} {kvs:List (List Key × V)} (e:H a=some (.dT kvs)):uX K H (.ref a) (.type "dict")
 | ins {a C dx:Addr} {fs:List (Str × V)} (e:H a=some (.ins C dx fs)) (cl:Dt K C) (ha:PySem.W.findIn K (.ref C) "__class__" = some (some (.builtin "object.__class__")))
   (hn:PySem.W.specialIn K (.builtin "object.__class__") "__get__" = some (some (.builtin "getset_descriptor.__get__"))) (htk:PySem.W.takesIn K (.builtin "object.__class__")=some true)
   (hm:PySem.W.mroIn K C (.type "object")=some true):uX K H (.ref a) (.ref C)
theorem Nv{x:V}{u t:Value}(I:Inv X pins σ H s)(rx:RelV x u)(ty:uX X.K H x t)(e:PySem.W.kitOne X.K t c=some b)(h:∀ tk,Q (.bool b) { s with toks:=tk }) :
  wpAny (model X.prog X.w) A (call (.builtin "isinstance") [u,c]) Q E s:=by
 cases ty with
 | non=>cases (show u=Value.none from rx);exact PySem.W.kia_one PySem.W.kitx_none I.vC True.intro e (fun z=>nomatch z) h
 | bl y=>cases (show u=Value.bool y from rx);exact PySem.W.kia_one PySem.W.kitx_bool I.vC True.intro e (fun z=>nomatch z) h
 | int i=>obtain⟨t,q⟩:=(show ∃ t,u=Value.int i t from rx);cases q;exact PySem.W.kia_one PySem.W.kitx_int I.vC True.intro e (fun z=>nomatch z) h
 | str y=>obtain⟨t,q⟩:=(show ∃ t,u=Value.str y t from rx);cases q;exact PySem.W.kia_one PySem.W.kitx_str I.vC True.intro e (fun z=>nomatch z) h
 | flt y=>obtain⟨t,q⟩:=(show ∃ t,u=Value.float y t from rx);cases q;exact PySem.W.kia_one PySem.W.kitx_float I.vC True.intro e (fun z=>nomatch z) h
 | @lst a xs ea=>
  cases (show u=Value.ref a from rx)
  obtain⟨_,_,n,_,h1⟩:=(show cV X.prog X.w H s.heap a (.lst xs) from I.hok a _ ea)
  exact PySem.W.kia_one PySem.W.kitx_list I.vC ⟨_,h1,rfl⟩ e (fun z=>nomatch z) h
 | @Kw a ob xs ea=>
  cases (show u=Value.ref a from rx)
  obtain⟨_,_,_,n,_,h1⟩:=(show cV X.prog X.w H s.heap a (.Kw ob (.lst xs)) from I.hok a _ ea)
  exact PySem.W.kia_one PySem.W.kitx_list I.vC ⟨_,h1,rfl⟩ e (fun z=>nomatch z) h
 | @tup a xs ea=>
  cases (show u=Value.ref a from rx)
  obtain⟨_,_,_,p⟩:=(show cV X.prog X.w H s.heap a (.tup xs) from I.hok a _ ea)
  obtain⟨o,h1,h2,_⟩:=p
  exact PySem.W.kia_one PySem.W.kitx_tuple I.vC ⟨o,h1,h2⟩ e (fun z=>nomatch z) h
 | @dK a kvs ea=>
  cases (show u=Value.ref a from rx)
  obtain⟨_,_,vs,_,p⟩:=(show cV X.prog X.w H s.heap a (.dK kvs) from I.hok a _ ea)
  obtain⟨o,es,ep,h1,h2,_⟩:=p
  exact PySem.W.kia_one PySem.W.kitx_dict I.vC ⟨o,h1,h2.1⟩ e (fun z=>nomatch z) h
 | @dT a kvs ea=>
  cases (show u=Value.ref a from rx)
  obtain⟨_,_,xs,_,o,es,ep,h1,h2,_⟩:=(show cV X.prog X.w H s.heap a (.dT kvs) from I.hok a _ ea)
  exact PySem.W.kia_one PySem.W.kitx_dict I.vC ⟨o,h1,h2.1⟩ e (fun z=>nomatch z) h
 | @ins a C dx fs ea cl ha hn htk hm=>
  cases (show u=Value.ref a from rx)
  obtain⟨mA,O,_⟩:=vp I.hok ea
  obtain⟨od,J,_⟩:=O.look
  exact PySem.W.kia_one (PySem.W.kitx_own (cl.get _) cl.hd ha hn htk hm) I.vC J e (fun z=>nomatch z) h
end
structure iH(k:Nat)(A:Around):Prop where
 hd:A.handled=none
 dp:A.depth+3 * k+5 < recursionLimit
 un:A.units+16 * k+200 < cLine
theorem iH.mono{j k:Nat}{A:Around}(r:iH k A)(h:j<=k):iH j A:=⟨r.hd,by have:=r.dp;lia,by have:=r.un;lia⟩
theorem iH.deeper{k:Nat}{A:Around}(r:iH (k+1) A)(env:Env):iH k (A.deeper env):=
 ⟨r.hd,by have:=r.dp;show A.depth+1+3 * k+5 < _;lia,by have:=r.un;show A.units+3+16 * k+200 < _;lia⟩
theorem Ik{A:Around}{C:Addr}{us:List Value}{kw:List (Str × Value)}:(A.under (.builtin "type.__call__" ⟨.ref C :: us,kw⟩)).depth=A.depth+1:=by
 first | rfl | simp [Around.under,Code.weight,Code.isCreation,Code.isGuard,Code.isCaller,Code.frames,Code.isFrame,guardIds]
theorem Ij{A:Around}{C:Addr}{us:List Value}{kw:List (Str × Value)}:(A.under (.builtin "type.__call__" ⟨.ref C :: us,kw⟩)).units=A.units+1:=by
 first | rfl | simp [Around.under,Code.cUnits,Code.frames,Code.isFrame]
theorem iH.make{k:Nat}{A:Around}(r:iH (k+1) A)(C:Addr)(us:List Value)(kw:List (Str × Value)):iH k (A.under (.builtin "type.__call__" ⟨.ref C :: us,kw⟩)):=
 ⟨r.hd,by have:=r.dp;rw[Ik];lia,by have:=r.un;rw[Ij];lia⟩
theorem iH.depth{k:Nat}{A:Around}(r:iH k A):A.depth < recursionLimit:=by have:=r.dp;lia
theorem iH.units{k:Nat}{A:Around}(r:iH k A):A.units+64 < cLine:=by have:=r.un;lia
theorem iH.Xe{k:Nat}{A:Around}(r:iH k A):A.units < cLine:=by have:=r.un;lia
def qAO:TA:=fun _ H Q=>Q [] H
def Q6(ta:TE)(tr:TA):TA:=fun σ H Q=>ta σ H fun x H1=>tr σ H1 fun xs H2=>Q (x :: xs) H2
section
variable{X:Cx}{e:Expr}{es:List Expr}{te:TE}{t:TA}{pos:Pos}
theorem zD:PA X [] qAO:=fun _ _ _ _ H Q I h=>Calls.spliced_nil ⟨[],H,I,.nil,h⟩
theorem zA(ha:PE X e te)(hr:PA X es t)(hs:starEach (e :: es) X.env=(false,eval e X.env) :: starEach es X.env:=by rfl):PA X (e :: es) (Q6 te t):=by
 intro pos pins s σ H Q I h
 rw[hs]
 show wpAny _ _ (spliced ((false,eval e X.env) :: backTo pos (starEach es X.env))) _ _ s
 refine Calls.spliced_cons (cA (ha pins s σ H _ I h) fun u s1 ⟨x,H1,I1,r1,q1⟩=>?_)
 exact cA (hr pos pins s1 σ H1 _ I1 q1) fun us s2 ⟨xs,H2,I2,r2,q2⟩=>⟨x :: xs,H2,I2,.cons r1 r2,q2⟩
def qCI(t:TA):TE:=fun σ H Q=>t σ H fun xs H1=>xs.length<=sizeLine/\∀ p,H1 p=none->Q (.ref p) (upd H1 p (.tup xs))
def qAR(t:TA):TE:=fun σ H Q=>t σ H fun xs H1=>xs.length<=sizeLine/\∀ p,H1 p=none->Q (.ref p) (upd H1 p (.lst xs))
theorem zW {x1} (h:PA X es t):PE X (.Tuple es x1 pos) (qCI t):=by
 intro pins s σ H Q I hq
 refine wpAny_Tuple_spliced (cA (h pos pins s σ H _ I hq) fun us s1 ⟨xs,H1,I1,r,z,q⟩=>⟨by rw[<-r.length];exact z,?_⟩)
 have hf:H1 s1.heap.objs.size=none:=I1.hok.fresh (bu _)
 refine⟨.ref s1.heap.objs.size,upd H1 s1.heap.objs.size (.tup xs),I1.laid (t':=s1.toks) (fun b u e=>Heap.get?_push_of_some _ e) (bu _) ?_,rfl,q _ hf⟩
 exact⟨z,us,r,⟨_,Heap.get?_push_size _ rfl,rfl,_,rfl⟩⟩
theorem yK(h:PA X es t):PE X (.List es pos) (qAR t):=by
 intro pins s σ H Q I hq
 refine wpAny_List_spliced (cA (h pos pins s σ H _ I hq) fun us s1 ⟨xs,H1,I1,r,z,q⟩=>⟨by rw[<-r.length];exact z,?_⟩)
 have hf:H1 s1.heap.objs.size=none:=I1.hok.fresh (bu _)
 refine⟨.ref s1.heap.objs.size,upd H1 s1.heap.objs.size (.lst xs),I1.laid (t':=s1.toks) (fun b u e=>Heap.get?_push_of_some _ e) (bu _) ?_,rfl,q _ hf⟩
 exact⟨z,us,0,r,Heap.get?_push_size _ rfl⟩
end
abbrev Sp:=List V->Hp->VK->XK->Prop
abbrev Pq:=List Env->Hp->Shared->XK->Value->Shared->Prop
structure Jm(P:Program)(w:World)(K:PySem.W.Frag)(mg:Str->Option Value)(base:Heap)(A:Around)(outer:List Env)(s:Shared)(H:Hp):Prop where
 frames:A.frames=some outer
 mod:Mod K mg base
 bs:∀ b o,base.get? b=some o->s.heap.get? b=some o/\H b=none
 W5:base.objs.size<=s.heap.objs.size
 vI:s.heap.FunFrames base outer
 Z1:∀ b∈frs outer,H b=none
 hok:qW P w H s.heap
 bare:AllBare s.gens
def CE(outer:List Env)(P:Program)(w:World)(H:Hp)(s:Shared)(Q:VK)(u:Value)(s':Shared):Prop:=
 ∃ v H',s'.os=s.os/\AllBare s'.gens/\Un (frs outer) [] H H' s.heap s'.heap/\qW P w H' s'.heap/\RelV v u/\Q v H'
def CR(CX:Pq)(outer:List Env)(P:Program)(w:World)(H:Hp)(s:Shared)(Q:VK)(E:XK)(r:Result)(s':Shared):Prop:=
 match r with
 | .ok (.ret u)=>CE outer P w H s Q u s'
 | .ok _=>False
 | .error e=>CX outer H s E e s'
structure aL(P:Program)(w:World)(K:PySem.W.Frag)(mg:Str->Option Value)(base:Heap)(CX:Pq)(k:Nat)(f:Addr)(fd:FuncData)(ps:List Str)(sp:Sp):Prop where
 len:∀ vs H Q E,sp vs H Q E->vs.length=ps.length
 run:∀(A:Around)(outer:List Env)(s:Shared)(H:Hp)(args:Args)(us:List Value)(vs:List V)(Q:VK)(E:XK),iH k A->Jm P w K mg base A outer s H->BindsTo s fd args (ps.zip us)->Vals vs us->sp vs H Q E →
  codeAny (model P w) A (.call (.ref f) args) (CR CX outer P w H s Q E) s
theorem aL.mono{P:Program}{w:World}{K:PySem.W.Frag}{mg:Str->Option Value}{base:Heap}{CX:Pq}{j k:Nat}{f:Addr}{fd:FuncData}{ps:List Str}{sp:Sp}(F:aL P w K mg base CX j f fd ps sp)(h:j<=k) :
  aL P w K mg base CX k f fd ps sp:=⟨F.len,fun A outer s H args us vs Q E hr=>F.run A outer s H args us vs Q E (hr.mono h)⟩
theorem Jm.make{P:Program}{w:World}{K:PySem.W.Frag}{mg:Str->Option Value}{base:Heap}{A:Around}{outer:List Env}{s:Shared}{H:Hp}(e:Jm P w K mg base A outer s H)(C:Addr)(us:List Value)(kw:List (Str × Value)) :
  Jm P w K mg base (A.under (.builtin "type.__call__" ⟨.ref C :: us,kw⟩)) outer s H:=⟨by first | exact e.frames | (simpa [Around.under,Code.envs,Code.isFrame,pushEnvs] using e.frames),e.mod,e.bs,e.W5,e.vI,e.Z1,e.hok,e.bare⟩
section
variable{X:Cx}{pins:List (Addr × Obj)}{σ:St}{H:Hp}{s s':Shared}
theorem Inv.env0(I:Inv X pins σ H s):Jm X.prog X.w X.K X.mg X.base X.A X.stack s H:=
 ⟨I.ok.frames,I.ok.mod,I.bs,Nat.le_trans I.ok.W5 I.sz,I.stack,I.Jq,I.hok,I.bare⟩
theorem Inv.after{Q:VK}{u:Value}(I:Inv X pins σ H s)(h:CE X.stack X.prog X.w H s Q u s'):EP X pins σ Q u s':=by
 obtain⟨v,H',os,bare,un,hok,r,q⟩:=h
 obtain⟨hh,g,d,t,os'⟩:=s'
 obtain rfl:os'=s.os:=os
 exact⟨v,H',I.call (h':=hh) (g':=g) (d':=d) (t':=t) (ch:=[]) un hok bare (fun b z=>absurd z (by simp)),r,q⟩
end
def qAY(sp:Sp)(yz:List V)(E:XK)(t:TA):TE:=fun σ H Q=>t σ H fun vs H1=>sp (vs++yz) H1 Q E
def Wk(C:Addr)(m:Str)(sp:Sp)(yz:List V)(E:XK)(ta:TE)(t:TA):TE:=fun σ H Q=>ta σ H fun x H1 => ∃ a dx fs,x = .ref a/\H1 a=some (.ins C dx fs)/\fs.lookup m=none ∧
 t σ H1 fun vs H2=>sp (x :: (vs++yz)) H2 Q E
def qAQ(C:Addr)(sp:Sp)(yz:List V)(E:XK)(t:TA):TE:=fun σ H Q=>t σ H fun vs H1 => ∀ x dx,H1 x=none->H1 dx=none->dx ≠ x →
 sp (.ref x :: (vs++yz)) (upd (upd H1 dx (.own x)) x (.ins C dx [])) (fun v H2=>v = .non/\Q (.ref x) H2) E
def Binds(K:PySem.W.Frag)(fd:FuncData)(ps:List Str)(ds:List Value):Prop:=
 ∀(s:Shared)(us:List Value),K.In s.heap->(us++ds).length=ps.length->BindsTo s fd ⟨us,[]⟩ (ps.zip (us++ds))
theorem Binds.all{K:PySem.W.Frag}{fd:FuncData}{ps:List Str}(h:∀ us:List Value,us.length=ps.length->bindArgs fd ⟨us,[]⟩=pure (ps.zip us)):Binds K fd ps []:=fun s us _ hl=>by
 rw[dM]at hl ⊢
 exact .of_eq (h us hl)
def Passes(CX:Pq)(X:Cx)(E:XK):Prop:=∀(pins:List (Addr × Obj))(σ:St)(H:Hp)(s:Shared)(e:Value)(s':Shared),Inv X pins σ H s->CX X.stack H s E e s'->X.xe e s'
section
variable{X:Cx}{CX:Pq}{k:Nat}{f C:Addr}{fd:FuncData}{ps:List Str}{sp:Sp}{yz:List V}{ds:List Value}{E:XK}{x m:Str}{p pos apos:Pos}{e o:Expr}{es:List Expr}{ta:TE}{t:TA}
theorem Hb{pins:List (Addr × Obj)}{σ:St}{H:Hp}{s:Shared}{Q:VK}{us:List Value}{vs:List V}(F:aL X.prog X.w X.K X.mg X.base CX k f fd ps sp)(hr:iH k X.A)(hb:Binds X.K fd ps ds)(hd:Vals yz ds)(hx:Passes CX X E)
  (I:Inv X pins σ H s) (r:Vals vs us) (h:sp (vs++yz) H Q E):wpAny (model X.prog X.w) X.A (call (.ref f) us) (EP X pins σ Q) X.xe s:=by
 have r2:Vals (vs++yz) (us++ds):=r.append hd
 have hl:(us++ds).length=ps.length:=by rw[<-r2.length];exact F.len _ _ _ _ h
 refine wpAny_call (codeAny_mono (F.run X.A X.stack s H ⟨us,[]⟩ (us++ds) (vs++yz) Q E hr I.env0 (hb s us I.vC hl) r2 h) fun r s' hq=>?_)
 cases r with
 | error e=>exact hx pins σ H s e s' I hq
 | ok fl=>
  cases fl with
  | ret u=>exact I.after hq
  | next=>exact False.elim hq
  | brk=>exact False.elim hq
  | cont=>exact False.elim hq
theorem zJ(F:aL X.prog X.w X.K X.mg X.base CX k f fd ps sp)(hr:iH k X.A)(hg:Gl X x)(hm:X.mg x=some (.ref f))(hk:PySem.W.keepIn X.K (.ref f)=true)(hb:Binds X.K fd ps ds)(hd:Vals yz ds)(hx:Passes CX X E)
  (ha:PA X (e :: es) t) (hdb:(x == ("__debug__" : Str))=false:=by decide) (he:starEach (e :: es) X.env=(false,eval e X.env) :: starEach es X.env:=by rfl) (hpl:(backTo pos (starEach es X.env)).any (·.1)=false:=by rfl) :
  PE X (.Call (.Name x p) (e :: es) [] pos) (qAY sp yz E t):=by
 intro pins s σ H Q I h
 refine wpAny_Call_Name_kw (Kl I hg hm ?_ hdb)
 refine PySem.W.callWith_K (h₀:=X.base) I.ok.mod.UJ hk (cA (ha pos pins s σ H _ I h) fun us s1 ⟨vs,H1,I1,r,q⟩=>⟨I1.vC,?_⟩) he hpl
 exact Hb F hr hb hd hx I1 r q
theorem V2{pl:Sem Bool}(he:PE X o ta)(c:Dt X.K C)(hm:Meth X.K C m f)(F:aL X.prog X.w X.K X.mg X.base CX k f fd ps sp)(hr:iH k X.A)(hb:Binds X.K fd ps ds)(hd:Vals yz ds)(hx:Passes CX X E)(ha:PA X (e :: es) t)
  (hst:starEach (e :: es) X.env=(false,eval e X.env) :: starEach es X.env:=by rfl) (hpl:(backTo pos (starEach es X.env)).any (·.1)=false:=by rfl)
  (ht:eval (.Call (.Attribute o m apos) (e :: es) [] pos) X.env=(do
   let ov ← eval o X.env
   standAt apos.atName
   let (f,first) ← holding [ov] (getMethod ov m pl)
   callWith pos f first (backTo pos (starEach (e :: es) X.env)) (backToKw pos (keywordEach [] X.env))):=by rfl) :
  PE X (.Call (.Attribute o m apos) (e :: es) [] pos) (Wk C m sp yz E ta t):=by
 intro pins s σ H Q I h
 refine PySem.W.methodCall_KW (pl:=pl) (cA (he pins s σ H _ I h) fun u s1 ⟨x,H1,I1,rx,a,dx,fs,ex,ea,l,q⟩=>?_) ht
 subst ex
 obtain rfl:u=Value.ref a:=rx
 refine xW I1 ea c hm l ?_
 refine PySem.W.callWith_K (first:=[.ref a]) (h₀:=X.base) I.ok.mod.UJ hm.kp (cA (ha pos pins s1 σ H1 _ I1 q) fun us s2 ⟨vs,H2,I2,r,q2⟩=>⟨I2.vC,?_⟩) hst hpl
 exact Hb (us:=.ref a :: us) (vs:=.ref a :: vs) F hr hb hd hx I2 (.cons rfl r) q2
theorem wg{pl:Sem Bool}(he:PE X o ta)(c:Dt X.K C)(hm:Meth X.K C m f)(F:aL X.prog X.w X.K X.mg X.base CX k f fd ps sp)(hr:iH k X.A)(hb:Binds X.K fd ps ds)(hd:Vals yz ds)(hx:Passes CX X E)
  (ht:eval (.Call (.Attribute o m apos) [] [] pos) X.env=(do
   let ov ← eval o X.env
   standAt apos.atName
   let (f,first) ← holding [ov] (getMethod ov m pl)
   callWith pos f first (backTo pos (starEach [] X.env)) (backToKw pos (keywordEach [] X.env))):=by rfl) :
  PE X (.Call (.Attribute o m apos) [] [] pos) (Wk C m sp yz E ta qAO):=by
 intro pins s σ H Q I h
 refine PySem.W.methodCall_KW (pl:=pl) (cA (he pins s σ H _ I h) fun u s1 ⟨x,H1,I1,rx,a,dx,fs,ex,ea,l,q⟩=>?_) ht
 subst ex
 obtain rfl:u=Value.ref a:=rx
 refine xW I1 ea c hm l ?_
 exact PySem.W.callWith_K0 (first:=[.ref a]) I1.vC hm.kp (Hb (us:=[.ref a]) (vs:=[.ref a]) F hr hb hd hx I1 (.cons rfl .nil) q)
structure Mk(K:PySem.W.Frag)(C f:Addr):Prop where
 makes:PySem.W.makesIn K C=true
 init:PySem.W.findIn K (.ref C) "__init__" = some (some (.ref f))
 fn:PySem.W.isFn K (.ref f)=true
 kp:KI K C
theorem QZ{pins:List (Addr × Obj)}{σ:St}{H:Hp}{s:Shared}{Q:VK}{us:List Value}{vs:List V}(M:Mk X.K C f)(F:aL X.prog X.w X.K X.mg X.base CX k f fd ps sp)(hr:iH (k+1) X.A)(hb:Binds X.K fd ps ds)(hd:Vals yz ds)
  (hx:Passes CX X E) (I:Inv X pins σ H s) (r:Vals vs us)
  (h:∀ x dx,H x=none->H dx=none->dx ≠ x->sp (.ref x :: (vs++yz)) (upd (upd H dx (.own x)) x (.ins C dx [])) (fun v H2=>v = .non/\Q (.ref x) H2) E) :
  wpAny (model X.prog X.w) X.A (call (.ref C) us) (EP X pins σ Q) X.xe s:=by
 have hq:=h (s.heap.objs.size+1) s.heap.objs.size (I.hok.fresh (Nat.le_succ _)) (I.hok.fresh (bu _)) (Nat.ne_of_lt (Nat.lt_succ_self _))
 have I2:=Inv.made (C:=C) I
 have r2:Vals (V.ref (s.heap.objs.size+1) :: (vs++yz)) (Value.ref (s.heap.objs.size+1) :: (us++ds)):=.cons rfl (r.append hd)
 have hl:(Value.ref (s.heap.objs.size+1) :: us++ds).length=ps.length:=by
  have e:=r2.length
  rw[F.len _ _ _ _ hq]at e
  exact e.symm
 refine wpAny_call (RX (f:=f) I.vC M.makes M.init (beq_iff_eq.mp M.fn) (codeAny_mono (F.run _ X.stack _ _ ⟨Value.ref (s.heap.objs.size+1) :: us,[]⟩ (Value.ref (s.heap.objs.size+1) :: (us++ds)) _ _ E (hr.make C us [])
  (I2.env0.make C us []) (hb _ (Value.ref (s.heap.objs.size+1) :: us) I2.vC hl) r2 hq) fun r s' hq'=>?_))
 cases r with
 | error e=>exact hx pins σ _ _ e s' I2 hq'
 | ok fl=>
  cases fl with
  | ret u=>
   obtain⟨v,H',I3,rv,ev,q3⟩:=I2.after hq'
   subst ev
   exact⟨rv,⟨V.ref (s.heap.objs.size+1),H',I3,rfl,q3⟩⟩
  | next=>exact False.elim hq'
  | brk=>exact False.elim hq'
  | cont=>exact False.elim hq'
theorem V3(M:Mk X.K C f)(F:aL X.prog X.w X.K X.mg X.base CX k f fd ps sp)(hr:iH (k+1) X.A)(hg:Gl X x)(hm:X.mg x=some (.ref C))(hb:Binds X.K fd ps ds)(hd:Vals yz ds)(hx:Passes CX X E)
  (ha:PA X (e :: es) t) (hdb:(x == ("__debug__" : Str))=false:=by decide) (he:starEach (e :: es) X.env=(false,eval e X.env) :: starEach es X.env:=by rfl) (hpl:(backTo pos (starEach es X.env)).any (·.1)=false:=by rfl) :
  PE X (.Call (.Name x p) (e :: es) [] pos) (qAQ C sp yz E t):=by
 intro pins s σ H Q I h
 refine wpAny_Call_Name_kw (Kl I hg hm ?_ hdb)
 refine PySem.W.callWith_K (h₀:=X.base) I.ok.mod.UJ M.kp (cA (ha pos pins s σ H _ I h) fun us s1 ⟨vs,H1,I1,r,q⟩=>⟨I1.vC,?_⟩) he hpl
 exact QZ M F hr hb hd hx I1 r q
end
section
variable{X:Cx}{CX:Pq}{k:Nat}{f C:Addr}{fd:FuncData}{ps ks:List Str}{sp:Sp}{E:XK}{x m:Str}{p pos apos kpos:Pos}{e o:Expr}{es:List Expr}{kws:List Keyword}{te ta:TE}{t tk:TA}{nm:Option Str}
structure KBinds(K:PySem.W.Frag)(fd:FuncData)(ps ks:List Str)(g:List Value->List Value->List Value)(gV:List V->List V->List V):Prop where
 to:∀(s:Shared)(us ws:List Value),K.In s.heap->(g us ws).length=ps.length->BindsTo s fd ⟨us,ks.zip ws⟩ (ps.zip (g us ws))
 rel:∀ {vs:List V} {us:List Value} {zs:List V} {ws:List Value},Vals vs us->Vals zs ws->Vals (gV vs zs) (g us ws)
variable{g:List Value->List Value->List Value}{gV:List V->List V->List V}
end
structure aN(N P:List Str)(sc:Scope):Prop where
 kind:sc.kind = .function
 co:sc.isCoroutine=false
 gen:sc.isGenerator=false
 nd:N.Nodup
 pre:N.take P.length=P
 par:∀ x∈P,sc.names.lookup x=some .local ∨ sc.names.lookup x=some .cell
 YL:∀ y∈sc.names,y.2 ≠ .free
theorem BP{kindOf:Str->Option NameKind}{x:Str}:∀ {binds:List (Str × Value)} {m:Str->Option Value},(∀ v,(x,v) ∉ binds)->bindL kindOf binds m x=m x
 | [],_,_=>rfl
 | (n,v) :: r,m,h=>by
  unfold bindL
  rw[BP fun w hw=>h w (List.mem_cons_of_mem _ hw)]
  split
  ·have:x ≠ n:=by rintro rfl;exact h v List.mem_cons_self
   simp [this]
  ·rfl
theorem BV{kindOf:Str->Option NameKind}{x:Str}:∀ {binds:List (Str × Value)} {m:Str->Option Value},(∀ v,(x,v) ∉ binds)->bindC kindOf binds m x=m x
 | [],_,_=>rfl
 | (n,v) :: r,m,h=>by
  unfold bindC
  rw[BV fun w hw=>h w (List.mem_cons_of_mem _ hw)]
  split
  ·rfl
  ·have:x ≠ n:=by rintro rfl;exact h v List.mem_cons_self
   simp [this]
theorem BR{kindOf:Str->Option NameKind}{x:Str}{v:Value}:∀ {P:List Str} {vs:List Value} {i:Nat} {m:Str->Option Value},P.Nodup->P[i]? = some x->vs[i]? = some v->kindOf x=some .local →
  bindL kindOf (P.zip vs) m x=some v
 | [],_,_,_,_,h,_,_=>by simp at h
 | _ :: _,[],_,_,_,_,h,_=>by simp at h
 | p :: P,w :: vs,0,m,nd,h1,h2,hk=>by
  simp at h1 h2;subst h1;subst h2
  show bindL kindOf ((p,w) :: P.zip vs) m p=_
  unfold bindL
  rw[BP fun v hv=>(List.nodup_cons.mp nd).1 (List.of_mem_zip hv).1,if_pos hk]
  simp
 | p :: P,w :: vs,i+1,m,nd,h1,h2,hk=>by
  show bindL kindOf ((p,w) :: P.zip vs) m x=_
  unfold bindL
  exact BR (i:=i) (List.nodup_cons.mp nd).2 (by simpa using h1) (by simpa using h2) hk
theorem BW{kindOf:Str->Option NameKind}{x:Str}{v:Value}:∀ {P:List Str} {vs:List Value} {i:Nat} {m:Str->Option Value},P.Nodup->P[i]? = some x->vs[i]? = some v->kindOf x ≠ some .local →
  bindC kindOf (P.zip vs) m x=some v
 | [],_,_,_,_,h,_,_=>by simp at h
 | _ :: _,[],_,_,_,_,h,_=>by simp at h
 | p :: P,w :: vs,0,m,nd,h1,h2,hk=>by
  simp at h1 h2;subst h1;subst h2
  show bindC kindOf ((p,w) :: P.zip vs) m p=_
  unfold bindC
  rw[BV fun v hv=>(List.nodup_cons.mp nd).1 (List.of_mem_zip hv).1,if_neg hk]
  simp
 | p :: P,w :: vs,i+1,m,nd,h1,h2,hk=>by
  show bindC kindOf ((p,w) :: P.zip vs) m x=_
  unfold bindC
  exact BW (i:=i) (List.nodup_cons.mp nd).2 (by simpa using h1) (by simpa using h2) hk
def start(N:List Str)(vs:List V):St:=vs.map some++List.replicate (N.length - vs.length) none
def JL(CX:Pq)(P:Program)(w:World)(K:PySem.W.Frag)(mg:Str->Option Value)(base:Heap)(N:List Str)(qual:Str)(scope:Scope)(f:Addr)(cd:Value)(A:Around)(outer:List Env)(s:Shared)(H:Hp)(E:XK):Cx where
 prog:=P
 w:=w
 K:=K
 mg:=mg
 base:=base
 A:=A.deeper (envOfC qual scope s.heap.objs.size f cd)
 N:=N
 s₀:=s
 H₀:=H
 env:=envOfC qual scope s.heap.objs.size f cd
 outer:=outer
 stack:=envOfC qual scope s.heap.objs.size f cd :: outer
 ex:=[]
 calm:=true
 fn:=fun _=>true
 pn:=[]
 xe:=fun e s'=>wpAny (model P w) (A.deeper (envOfC qual scope s.heap.objs.size f cd)) (leaving (envOfC qual scope s.heap.objs.size f cd) e) (fun _ s''=>CX outer H s E e s'') (fun e' s''=>CX outer H s E e' s'') s'
theorem GX{sc:Scope}{n:Nat}{x:Str}(h:sc.names.lookup x=some .cell):∃ c,(cellsFrom n sc.names []).lookup x=some c:=by
 have q:=PySem.W.cellsFrom_some sc.names n [] (.inl h)
 exact Option.isSome_iff_exists.mp q
theorem Ny{CX:Pq}{P:Program}{w:World}{K:PySem.W.Frag}{mg:Str->Option Value}{base:Heap}{N ps:List Str}{qual:Str}{scope:Scope}{f:Addr}{cd:Value}{A:Around}{outer:List Env}{s s1:Shared}{H:Hp}{E:XK}{us:List Value}{vs:List V}
  (S:aN N ps scope) (hd:A.handled=none) (e0:Jm P w K mg base A outer s H) (hl:vs.length=ps.length) (r:Vals vs us)
  (x:InCallC s s.heap.objs.size (bindL (envOfC qual scope s.heap.objs.size f cd).kindOf (ps.zip us) fun _=>none) (cellsFrom (s.heap.objs.size+1) scope.names []) (bindC (envOfC qual scope s.heap.objs.size f cd).kindOf (ps.zip us) fun _=>none) s1) :
  Inv (JL CX P w K mg base N qual scope f cd A outer s H E) [] (start N vs) H s1:=by
 have hpl:ps.length<=N.length:=by have:=congrArg List.length S.pre;rw[dN]at this;lia
 obtain⟨h1,tk,rfl,hk⟩:=x.done
 have noA:∀ b:Addr,b ∉ (JL CX P w K mg base N qual scope f cd A outer s H E).ex:=fun b z=>absurd (show b∈([]:List Addr) from z) (by simp)
 refine⟨⟨e0.mod,S.kind,rfl,rfl,bu _,fun y z c h1 h2=>?_,fun y hy=>?_,fun y c _ h=>?_,fun _=>hd,Around.frames_deeper e0.frames,.inr ⟨rfl,rfl⟩,fun b z=>absurd z (noA b),e0.bs,e0.W5,fun b _ _=>noA b,fun b z=>absurd z (noA b),e0.vI,e0.Z1⟩,
  rfl,e0.bare,Un.kept hk,⟨_,x.toInCall.ns,fun i y v h1 h2 h3=>?_⟩,fun y c h=>⟨_,x.cell y c h⟩,e0.hok.fresh (Nat.le_refl _),fun y c h=>?_,fun p hp=>absurd (show p∈([]:List (Addr × Obj)) from hp) (by simp),e0.hok.kept hk,?_⟩
 ·exact name_of_addr x.apart (PySem.mem_of_lookup h1) (PySem.mem_of_lookup h2)
 ·have hy:scope.names.lookup y=some .cell ∨ scope.names.lookup y=some .free:=hy
  rcases hy with hy | hy
  ·exact GX hy
  ·exact absurd rfl (S.YL _ (PySem.mem_of_lookup hy))
 ·exact Nat.le_of_lt (x.above y c (PySem.mem_of_lookup h))
 ·have hi:i < vs.length:=by
   unfold start at h2
   by_cases hi:i < vs.length
   ·exact hi
   ·rw[List.getElem?_append_right (by simpa using hi)]at h2
    rw[List.getElem?_replicate]at h2
    split at h2 <;> cases h2
  have ha:vs[i]? = some v:=by
   unfold start at h2
   rw[List.getElem?_append_left (by simpa using hi),List.getElem?_map]at h2
   cases e:vs[i]? with
   | none=>rw[e]at h2;cases h2
   | some a=>rw[e]at h2;cases h2;rfl
  obtain⟨u,hu,rv⟩:=r.get ha
  have hp:ps[i]? = some y:=by
   rw[<-S.pre,List.getElem?_take_of_lt (by lia)];exact h1
  have ndP:ps.Nodup:=by rw[<-S.pre];exact S.nd.sublist (List.take_sublist _ _)
  refine⟨u,rv,?_⟩
  rcases S.par y (List.mem_of_getElem? hp) with k | k
  ·exact .inl ⟨k,BR ndP hp hu k⟩
  ·obtain⟨c,e⟩:=GX (n:=s.heap.objs.size+1) k
   refine .inr ⟨.inl k,c,e,?_⟩
   have q:=x.cell y c e
   rw[BW ndP hp hu (by show scope.names.lookup y ≠ _;rw[k];decide)]at q
   exact q
 ·exact e0.hok.fresh (Nat.le_of_lt (x.above y c (PySem.mem_of_lookup h)))
 ·unfold start
  show _=N.length
  rw[dJ,cM,List.length_replicate]
  lia
theorem qC7{CX:Pq}{P:Program}{w:World}{K:PySem.W.Frag}{mg:Str->Option Value}{base:Heap}{k:Nat}{f:Addr}{name qual:Str}{params:Arguments}{body:List Stmt}{scope:Scope}{dV kV doc pm cdv ct oc:Value}{an od:Option Addr}
  {osl:Array (Option Value)} {N ps:List Str} {sp:Sp} (lk:K.lookup f=some ⟨oc,od,.func (PySem.W.fnOf name qual params body scope dV kV doc pm an cdv ct),osl⟩) (hcd:PySem.W.codeIn K cdv qual=true) (S:aN N ps scope)
  (len:∀ vs H Q E,sp vs H Q E->vs.length=ps.length)
  (hbody:∀(A:Around)(outer:List Env)(s:Shared)(H:Hp)(vs:List V)(Q:VK)(E:XK),iH k (A.deeper (envOfC qual scope s.heap.objs.size f cdv))->sp vs H Q E →
   ∃ t,Gi (JL CX P w K mg base N qual scope f cdv A outer s H E) body t/\t { nx:=fun _ H'=>Q .non H',rt:=Q } (start N vs) H) :
  aL P w K mg base CX (k+1) f (PySem.W.fnOf name qual params body scope dV kV doc pm an cdv ct) ps sp:=by
 refine⟨len,fun A outer s H args us vs Q E hr e0 hb r hsp=>?_⟩
 have hl:=len _ _ _ _ hsp
 have KX:K.In s.heap:=e0.mod.UJ.keeps fun b o e=>(e0.bs b o e).1
 have lim:s.heap.NoLimit:=e0.mod.nolimit.keeps fun b o e=>(e0.bs b o e).1
 have hkind:∀ y∈ps.zip us,scope.names.lookup y.1=some .local ∨ (scope.names.lookup y.1=some .cell/\((cellsFrom (s.heap.objs.size+1) scope.names []).lookup y.1).isSome=true):=fun ⟨n,v⟩ hy=>by
  rcases S.par n (List.of_mem_zip hy).1 with q | q
  ·exact .inl q
  ·exact .inr ⟨q,PySem.W.cellsFrom_some _ _ _ (.inl q)⟩
 refine codeAny_call_function hr.depth (KX _ _ lk) rfl S.co S.gen rfl (PySem.W.codeRec_of KX hcd) (hb _ _ _ _ ?_)
 refine wpAny_newFunctionEnv_cells S.kind hkind fun env he s1 x=>?_
 subst he
 refine⟨lim.keeps x.toInCall.keep,codeAny_func ?_⟩
 obtain⟨t,ht,hq⟩:=hbody A outer s H vs Q E (hr.deeper _) hsp
 have I:Inv (JL CX P w K mg base N qual scope f cdv A outer s H E) [] (start N vs) H s1:=Ny S hr.hd e0 hl r x
 refine wpAny_mono (ht [] s1 (start N vs) H _ I hq) (fun fl s' hs=>?_) fun e s' hs=>hs
 have fin:∀ {σ':St} {H':Hp} {v:V} {u:Value},Inv (JL CX P w K mg base N qual scope f cdv A outer s H E) [] σ' H' s'->RelV v u->Q v H'->CE outer P w H s Q u s':=
  fun {σ' H' v u} J rv q=>⟨v,H',J.os,J.bare,J.base,J.hok,rv,q⟩
 cases fl with
 | ret u=>
  obtain⟨v,σ',H',J,rv,q⟩:=hs
  exact fin J rv q
 | next=>
  obtain⟨σ',H',J,q⟩:=hs
  exact fin (v:=V.non) (u:=Value.none) J rfl q
 | brk=>
  obtain⟨_,_,_,q⟩:=hs
  exact False.elim q
 | cont=>
  obtain⟨_,_,_,q⟩:=hs
  exact False.elim q
section
variable{X:Cx}{x:Str}{p pos:Pos}{e:Expr}{es:List Expr}{t:TA}{id T:String}{r:List V->Hp->VK->Prop}
def tCB(r:List V->Hp->VK->Prop)(t:TA):TE:=fun σ H Q=>t σ H fun vs H1=>r vs H1 Q
theorem zS(hc:mL X (.builtin id) r)(hg:Gl X x)(hm:X.mg x=none)(hv:bootBuiltins x=some (.builtin id))(ha:PA X (e :: es) t)(hn:x ≠ "__name__" := by decide)(hdb:(x == ("__debug__" : Str))=false:=by decide)
  (he:starEach (e :: es) X.env=(false,eval e X.env) :: starEach es X.env:=by rfl) (hpl:(backTo pos (starEach es X.env)).any (·.1)=false:=by rfl):PE X (.Call (.Name x p) (e :: es) [] pos) (tCB r t):=by
 intro pins s σ H Q I h
 refine wpAny_Call_Name_kw (nU I hg hm hv ?_ hn hdb)
 exact PyProof.Rows.callWith_builtin1 (cA (ha pos pins s σ H _ I h) fun us s1 ⟨vs,H1,I1,r1,q1⟩=>hc pins s1 σ H1 vs us Q I1 r1 q1) he hpl
theorem yA(hc:mL X (.type T) r)(hg:Gl X x)(hm:X.mg x=none)(hv:bootBuiltins x=some (.type T))(ha:PA X (e :: es) t)(hn:x ≠ "__name__" := by decide)(hdb:(x == ("__debug__" : Str))=false:=by decide)
  (he:starEach (e :: es) X.env=(false,eval e X.env) :: starEach es X.env:=by rfl) (hpl:(backTo pos (starEach es X.env)).any (·.1)=false:=by rfl):PE X (.Call (.Name x p) (e :: es) [] pos) (tCB r t):=by
 intro pins s σ H Q I h
 refine wpAny_Call_Name_kw (nU I hg hm hv ?_ hn hdb)
 exact PyProof.Rows.callWith_type1 (cA (ha pos pins s σ H _ I h) fun us s1 ⟨vs,H1,I1,r1,q1⟩=>hc pins s1 σ H1 vs us Q I1 r1 q1) he hpl
end
end L2
namespace HT
open PySem PyProof.Rows
section
open PySem.SeqAt
open PySem.AutoSeq1 (wpAny_loadPart')
open PySem.MeetsSeq PySem.MeetsSeq2 PySem.MeetsSeq3
end
section
variable{prog:Program}{w:World}{A:Around}{E:Value->Shared->Prop}{s:Shared}
theorem W4{t b:Addr}{vs ws:List Value}{Q:Value->Shared->Prop}(ht:IsTup s.heap t vs.toArray)(hb:IsTup s.heap b ws.toArray)(hv:vs ≠ [])
  (h1:ws=[]->Q (.ref t) s) (h2:ws ≠ []->Q (.ref s.heap.objs.size) { s with heap:=s.heap.push { cls:=.type "tuple",data:=.seq (vs++ws).toArray } })
  (hsz:vs.length+ws.length<=sizeLine):wpAny (model prog w) A (binaryOp .Add (.ref t) (.ref b)) Q E s:=by
 obtain⟨⟨cls,dd,data,sl⟩,ho,hc,n,hd⟩:=id ht
 obtain⟨⟨cls2,dd2,data2,sl2⟩,ho2,hc2,n2,hd2⟩:=id hb
 simp only at hc hd hc2 hd2
 subst hc hd hc2 hd2
 have e:vs.toArray++ws.toArray=(vs++ws).toArray:=by simp
 by_cases hw:ws=[]
 ·exact concat_meets ⟨_,ho,rfl⟩ ⟨_,ho2,rfl⟩ noFill_tuple_add seq_tuple_add PySem.F.slot_tuple_add PySem.F.entry_tuple_add (PySem.F.args_tuple_add_2 _ _)
   (tuple_addW1 t b vs.toArray ws.toArray n n2 dd dd2 sl sl2 (by simpa using hv) (by simp [hw])) ⟨ho,ho2,h1 hw⟩
 ·refine concat_meets ⟨_,ho,rfl⟩ ⟨_,ho2,rfl⟩ noFill_tuple_add seq_tuple_add PySem.F.slot_tuple_add PySem.F.entry_tuple_add (PySem.F.args_tuple_add_2 _ _)
   (tuple_addW2 t b vs.toArray ws.toArray n n2 dd dd2 sl sl2 (by simpa using hv) (by simpa using hw) (by rw[List.size_toArray,List.size_toArray];exact hsz)) ⟨ho,ho2,?_⟩
  rw[e]
  exact h2 hw
def iV(n d:Nat):Option Int->Nat
 | none=>d
 | some v=>if v < 0 then (v+(n:Int)).toNat else min v.toNat n
theorem Ej(n d:Nat):iV n d none=d:=rfl
theorem vW(n d k:Nat):iV n d (some (k:Int))=min k n:=by
 show (if (k:Int) < 0 then ((k:Int)+(n:Int)).toNat else min (k:Int).toNat n)=min k n
 rw[if_neg (by lia),Du]
theorem Xo(n d:Nat)(hd:d<=n)(o:Option Int):iV n d o<=n:=by
 cases o with
 | none=>exact hd
 | some v=>
  show (if v < 0 then (v+(n:Int)).toNat else min v.toNat n)<=n
  by_cases hv:v < 0
  ·rw[if_pos hv];lia
  ·rw[if_neg hv];exact Nat.min_le_right _ _
theorem Lf(v:Int)(n d:Nat):(if v < 0 then max (v+(n:Int)) 0 else min v (n:Int))=((iV n d (some v):Nat):Int):=by
 show (if v < 0 then max (v+(n:Int)) 0 else min v (n:Int))=(((if v < 0 then (v+(n:Int)).toNat else min v.toNat n):Nat):Int)
 by_cases hv:v < 0
 ·simp only[if_pos hv];lia
 ·simp only[if_neg hv];lia
theorem JZ(lo hi:Option Int)(n:Nat):Builtin.Slice.sliceAdjust lo hi 1 (n:Int)=(((iV n 0 lo:Nat):Int),((iV n n hi:Nat):Int)):=by
 have h1:¬ ((1:Int) < 0):=by lia
 unfold Builtin.Slice.sliceAdjust
 simp only[h1,if_false]
 refine Prod.ext ?_ ?_
 ·cases lo with
  | none=>rfl
  | some v=>exact Lf v n 0
 ·cases hi with
  | none=>rfl
  | some v=>exact Lf v n n
theorem Hf(i j:Nat):Builtin.Slice.slicePlaces (i:Int) (j:Int) 1=j - i:=by
 unfold Builtin.Slice.slicePlaces
 have h1:(1:Int) > 0:=by lia
 simp only[h1,if_true,Int.ediv_one]
 split <;> lia
theorem wQ{v:Value}{o:Option Int}{Q:Option Int->Shared->Prop}(p:IsPart v o)(h:Q o s):wpAny (model prog w) A (Builtin.Slice.slicePartIndex v) Q E s:=by
 cases p with
 | none=>exact slicePart_none h
 | int i t=>exact slicePart_int h
theorem uB{sl:Addr}{vl vu:Value}{lo hi:Option Int}{n:Nat}{Q:Int × Int × Nat->Shared->Prop}(hs:s.heap.IsSliceOf sl vl vu .none)(pl:IsPart vl lo)(pu:IsPart vu hi)
  (h:Q (((iV n 0 lo:Nat):Int),1,iV n n hi - iV n 0 lo) s):wpAny (model prog w) A (Builtin.Slice.sliceApplied (.ref sl) (pure (n:Int))) Q E s:=by
 obtain⟨os,hos,hcs,hds⟩:=id hs
 unfold Builtin.Slice.sliceApplied Builtin.Slice.sliceFields
 refine wpAny_bind (wpAny_bind (wpAny_field hos hds (x:=vl) rfl (wpAny_bind (wpAny_field hos hds (x:=vu) rfl (wpAny_bind (wpAny_field hos hds (x:=.none) rfl (wpAny_pure ?_)))))))
 refine wpAny_bind (slicePart_none ?_)
 show wpAny _ _ (if ((1:Int) == 0)=true then _ else _) _ _ s
 rw[if_neg (by decide)]
 refine wpAny_bind (wQ pl (wpAny_bind (wQ pu (wpAny_bind (wpAny_pure ?_)))))
 show wpAny _ _ (match Builtin.Slice.sliceAdjust lo hi 1 (n:Int) with | (lo,hi)=>pure (lo,(1:Int),Builtin.Slice.slicePlaces lo hi 1)) _ _ s
 rw[JZ lo hi n]
 show wpAny _ _ (pure (((iV n 0 lo:Nat):Int),(1:Int),Builtin.Slice.slicePlaces ((iV n 0 lo:Nat):Int) ((iV n n hi:Nat):Int) 1)) _ _ s
 rw[Hf]
 exact wpAny_pure h
theorem Qg(xs:Array Value)(i k:Nat):((List.range k).filterMap fun (m:Nat)=>xs[((i:Int)+(m:Int) * 1).toNat]?).toArray=((xs.toList.drop i).take k).toArray:=by
 have e:(fun (m:Nat)=>xs[((i:Int)+(m:Int) * 1).toNat]?)=fun m=>xs[i+m]?:=by
  funext m
  have:((i:Int)+(m:Int) * 1).toNat=i+m:=by lia
  rw[this]
 rw[e]
 have:=pick_run xs i k
 rw[List.filterMap_map]at this
 have e2:((fun x=>xs[x]?) ∘ fun x=>i+x)=fun m=>xs[i+m]?:=rfl
 rw[e2]at this
 rw[this]
theorem tE{t sl:Addr}{items:Array Value}{vl vu:Value}{lo hi:Option Int}{Q:Value->Shared->Prop}(ht:IsTup s.heap t items)(hs:s.heap.IsSliceOf sl vl vu .none)(pl:IsPart vl lo)(pu:IsPart vu hi)
  (hw:¬ (iV items.size 0 lo=0/\iV items.size items.size hi=items.size))
  (h:Q (.ref s.heap.objs.size) { s with heap:=s.heap.push { cls:=.type "tuple",data:=.seq ((items.toList.drop (iV items.size 0 lo)).take (iV items.size items.size hi - iV items.size 0 lo)).toArray } })
  (hsz:items.size<=sizeLine):wpAny (model prog w) A (getItem (.ref t) (.ref sl)) Q E s:=by
 have Kq:sizeOk (.seq ((items.toList.drop (iV items.size 0 lo)).take (iV items.size items.size hi - iV items.size 0 lo)).toArray):=by
  show ((items.toList.drop (iV items.size 0 lo)).take (iV items.size items.size hi - iV items.size 0 lo)).toArray.size<=sizeLine
  rw[zc,dN,List.length_drop,Array.length_toList]
  lia
 have hj:iV items.size items.size hi<=items.size:=Xo _ _ (bu _) hi
 obtain⟨os,hos,hcs,hds⟩:=id hs
 have hTs:s.TypeIs (.ref sl) "slice" := ⟨os,hos,hcs⟩
 unfold getItem
 try with_reducible refine wpAny_holding ?_
 first | refine wpAny_bind (wpAny_pure ?_) | skip
 refine wpAny_bind (wpAny_sequenceKey ht.typeIs (by decide) ?_)
 refine wpAny_bind (wpAny_callSpecial?_slot (name:=Str.ofString "__getitem__") ht.typeIs PyProof.Rows.slot_tuple_getitem
  (wpAny_call_entry PyProof.Rows.slot_tuple_getitem ht.typeIs entry_tuple_getitem ?_ (args_tuple_getitem _ _)))
 show wpAny _ _ (Builtin.Tuple.tupleItemsOf (.ref t) >>= _) _ _ s
 refine wpAny_bind (tupleItemsOf_ ht ?_)
 refine wpAny_bind (wpAny_typeOf hTs ?_)
 rw[if_pos (by decide)]
 refine wpAny_bind (uB hs pl pu ?_)
 have hno:¬ ((((iV items.size 0 lo:Nat):Int) == 0 && (1:Int) == 1 && (iV items.size items.size hi - iV items.size 0 lo) == items.size)=true):=by
  intro q
  rw[Bool.and_eq_true,Bool.and_eq_true]at q
  have q1:((iV items.size 0 lo:Nat):Int)=0:=eq_of_beq q.1.1
  have q2:iV items.size items.size hi - iV items.size 0 lo=items.size:=eq_of_beq q.2
  exact hw ⟨by lia,by lia⟩
 show wpAny _ _ (if (((iV items.size 0 lo:Nat):Int) == 0 && (1:Int) == 1 && (iV items.size items.size hi - iV items.size 0 lo) == items.size)=true then _ else _) _ _ s
 rw[if_neg hno,Qg]
 first
  | exact wpAny_bind (m:=Builtin.Tuple.tupleExact _) (wpAny_newObj_type (wpAny_pure ⟨_,rfl,wpAny_pure h⟩) Kq)
  | exact wpAny_bind (m:=Builtin.Tuple.tupleExact _) (wpAny_newObj_type (wpAny_bind (wpAny_pure (wpAny_pure ⟨_,rfl,wpAny_pure h⟩))) Kq)
  | exact wpAny_bind (wpAny_bind (m:=Builtin.Tuple.tupleExact _) (wpAny_newObj_type (wpAny_pure (wpAny_pure ⟨_,rfl,wpAny_pure h⟩)) Kq))
  | exact wpAny_bind (wpAny_bind (m:=Builtin.Tuple.tupleExact _) (wpAny_newObj_type (wpAny_pure ⟨_,rfl,wpAny_pure h⟩) Kq))
end
end HT
namespace L2
open PySem PySem.Spec PyProof.Rows
abbrev TO:=St->Hp->(Option Int->Hp->Prop)->Prop
def PO(X:Cx)(e:Option Expr)(t:TO):Prop:=
 ∀(pins:List (Addr × Obj))(s:Shared)(σ:St)(H:Hp)(Q:Option Int->Hp->Prop),Inv X pins σ H s->t σ H Q →
  wpAny (model X.prog X.w) X.A (evalPart e X.env) (fun u s' => ∃ o H',Inv X pins σ H' s'/\IsPart u o/\Q o H') X.xe s
def Ue:TO:=fun _ H Q=>Q none H
def qAM(t:TE):TO:=fun σ H Q=>t σ H fun x H1 => ∃ i,x = .int i/\Q (some i) H1
theorem intsAre_of{ns:List Int}:∀ {us:List Value},Vals (ns.map V.int) us->IntsAre us ns:=by
 induction ns with
 | nil=>intro us r;rw[List.map_nil]at r;cases r;exact .nil
 | cons n ns ih=>
  intro us r
  rw[List.map_cons]at r
  cases r with
  | cons r1 r2=>
   obtain⟨t,e⟩:=r1
   subst e
   exact .cons n t (ih r2)
section
variable{X:Cx}{e:Expr}{te:TE}{lo hi:Option Expr}{tl th:TO}{pos p2:Pos}
theorem iM:PO X none Ue:=by
 intro pins s σ H Q I h
 rw[evalPart_none]
 exact wpAny_pure ⟨none,H,I,.none,h⟩
theorem iK(h:PE X e te):PO X (some e) (qAM te):=by
 intro pins s σ H Q I hw
 rw[evalPart_some]
 refine cA (h pins s σ H _ I hw) fun u s1 ⟨x,H1,I1,r1,q1⟩=>?_
 obtain⟨i,rfl,q⟩:=q1
 obtain⟨t,rfl⟩:=r1
 exact⟨some i,H1,I1,.int i t,q⟩
def SlR(X:Cx)(r:V->Option Int->Option Int->Hp->VK->Prop):Prop:=
 ∀(pins:List (Addr × Obj))(s:Shared)(σ:St)(H:Hp)(x:V)(v vl vu:Value)(lo hi:Option Int)(sl:Addr)(Q:VK),Inv X pins σ H s->RelV x v->s.heap.IsSliceOf sl vl vu .none->IsPart vl lo->IsPart vu hi->r x lo hi H Q →
  ∃ T id,typeLookup (.type T) "__getitem__" = pure (some (.builtin id))/\s.TypeIs v T/\wpAny (model X.prog X.w) X.A (getItem v (.ref sl)) (EP X pins σ Q) X.xe s
def tSl(r:V->Option Int->Option Int->Hp->VK->Prop)(te:TE)(tl th:TO):TE:=fun σ H Q=>te σ H fun x H1=>tl σ H1 fun l H2=>th σ H2 fun u H3=>r x l u H3 Q
theorem fH{r:V->Option Int->Option Int->Hp->VK->Prop}(hr:SlR X r)(he:PE X e te)(hl:PO X lo tl)(hu:PO X hi th):PE X (.Subscript e (.Slice lo hi none p2) pos) (tSl r te tl th):=by
 intro pins s σ H Q I h
 refine Subscript_ (cA (he pins s σ H _ I h) fun v s1 ⟨x,H1,I1,r1,q1⟩=>?_)
 refine wpAny_Slice (cA (hl pins s1 σ H1 _ I1 q1) fun vl s2 ⟨l,H2,I2,pl,q2⟩=>cA (hu pins s2 σ H2 _ I2 q2) fun vu s3 ⟨u,H3,I3,pu,q3⟩=>?_)
 rw[evalPart_none]
 refine wpAny_pure ?_
 have I4:Inv X pins σ H3 { s3 with heap:=s3.heap.push { cls:=.type "slice",data:=.fields #[vl,vu,.none] } }:=I3.kept (t':=s3.toks) fun b ob q=>Heap.get?_push_of_some _ q
 obtain⟨T,id,hT,ht,hg⟩:=hr pins { s3 with heap:=s3.heap.push { cls:=.type "slice",data:=.fields #[vl,vu,.none] } } σ H3 x v vl vu l u s3.heap.objs.size Q I4 r1 (Heap.IsSliceOf.new ..) pl pu q3
 show wpAny (model X.prog X.w) X.A (subscriptTail e (.Slice lo hi none p2) v (.ref s3.heap.objs.size)) (EP X pins σ Q) X.xe { s3 with heap:=s3.heap.push { cls:=.type "slice",data:=.fields #[vl,vu,.none] } }
 exact tail_any (ops:=[.ref s3.heap.objs.size,v]) ht hT hg (by with_unfolding_all rfl)
def lu(xs:List V)(lo hi:Option Int):List V:=(xs.drop (HT.iV xs.length 0 lo)).take (HT.iV xs.length xs.length hi - HT.iV xs.length 0 lo)
theorem vA(xs:List V)(lo hi:Option Int):(lu xs lo hi).length<=xs.length:=by
 unfold lu
 rw[dN,List.length_drop]
 lia
def qCX(K:PySem.W.Frag):V->Option Int->Option Int->Hp->VK->Prop:=fun x lo hi H Q => ∃ a xs,x = .ref a/\aH K H a xs ∧
 ¬ (HT.iV xs.length 0 lo=0/\HT.iV xs.length xs.length hi=xs.length)/\∀ p,H p=none->Q (.ref p) (upd H p (.tup (lu xs lo hi)))
theorem QQ:SlR X (qCX X.K):=by
 intro pins s σ H x v vl vu lo hi sl Q I rx hs pl pu h
 obtain⟨a,xs,rfl,hx,hw,q⟩:=h
 cases rx
 obtain⟨its,r,ht,hz⟩:=I.tuple hx
 have hlen:its.toArray.size=xs.length:=by rw[zc];exact r.length.symm
 refine⟨"tuple",_,PyProof.Rows.slot_tuple_getitem.lookup,ht.typeIs,?_⟩
 refine HT.tE ht hs pl pu (by rw[hlen];exact hw) ?_ (by rw[hlen];exact hz)
 rw[hlen]
 refine⟨.ref s.heap.objs.size,_,I.laid (t':=s.toks) (o:=.tup (lu xs lo hi)) (fun b ob q=>Heap.get?_push_of_some _ q) (bu _) ?_,rfl,q _ (I.hok.fresh (bu _))⟩
 exact⟨Nat.le_trans (vA xs lo hi) hz,_,(r.drop (HT.iV xs.length 0 lo)).take (HT.iV xs.length xs.length hi - HT.iV xs.length 0 lo),IsTup.new _ _⟩
def qBB(K:PySem.W.Frag):R2:=fun x y H Q => ∃ a b xs ys,x = .ref a/\y = .ref b/\aH K H a xs/\aH K H b ys/\xs ≠ []/\xs.length+ys.length<=sizeLine ∧
 (ys=[]->Q (.ref a) H)/\(ys ≠ []->∀ p,H p=none->Q (.ref p) (upd H p (.tup (xs++ys))))
theorem Vals.vZ{xs:List V}{us:List Value}(r:Vals xs us):us=[] ↔ xs=[]:=by
 cases r with
 | nil=>simp
 | cons _ _=>simp
theorem Ka:mQ X (binaryOp .Add) (qBB X.K):=by
 intro pins s σ H x y v u Q I rx ry h
 obtain⟨a,b,xs,ys,rfl,rfl,ha,hb,hx,hz,q1,q2⟩:=h
 cases rx
 cases ry
 obtain⟨its,r1,p1,_⟩:=I.tuple ha
 obtain⟨its2,r2,p2,_⟩:=I.tuple hb
 refine HT.W4 p1 p2 (fun z=>hx (r1.vZ.mp z)) (fun z=>⟨.ref a,H,I,rfl,q1 (r2.vZ.mp z)⟩) (fun z=>?_) (by rw[<-r1.length,<-r2.length];exact hz)
 refine⟨.ref s.heap.objs.size,_,I.laid (t':=s.toks) (o:=.tup (xs++ys)) (fun b ob q=>Heap.get?_push_of_some _ q) (bu _) ?_,rfl,q2 (fun w=>z (r2.vZ.mpr w)) _ (I.hok.fresh (bu _))⟩
 exact⟨by rw[dJ];exact hz,_,r1.append r2,IsTup.new _ _⟩
end
def UL(n:Nat)(i:Int):Option Nat:=if 0<=i then (if i < n then some i.toNat else none) else if -(n:Int)<=i then some (i+n).toNat else none
def oR{α:Type}(xs:List α)(i:Int):Option α:=(UL xs.length i).bind fun j=>xs[j]?
theorem Ko{n:Nat}{i:Int}{j:Nat}(h:UL n i=some j):seqIndex? i n=some j/\j < n /\ -(n:Int)<=i/\i < n:=by
 unfold UL at h
 by_cases h0:0<=i
 ·rw[if_pos h0]at h
  by_cases h1:i < n
  ·rw[if_pos h1]at h
   have e:i.toNat=j:=oN h
   exact⟨by rw[seqIndex_of h0 h1,e],by lia,by lia,h1⟩
  ·rw[if_neg h1]at h;cases h
 ·rw[if_neg h0]at h
  by_cases h1 : -(n:Int)<=i
  ·rw[if_pos h1]at h
   have e:(i+n).toNat=j:=oN h
   exact⟨by rw[seqIndex_neg (by lia) h1,e],by lia,h1,by lia⟩
  ·rw[if_neg h1]at h;cases h
theorem DX{α:Type}{xs:List α}{i:Int}{v:α}(h:oR xs i=some v):∃ j,seqIndex? i xs.length=some j/\xs[j]? = some v/\j < xs.length /\ -(xs.length:Int)<=i/\i < xs.length:=by
 unfold oR at h
 cases e:UL xs.length i with
 | none=>rw[e]at h;cases h
 | some j=>
  rw[e]at h
  obtain⟨h1,h2,h3,h4⟩:=Ko e
  exact⟨j,h1,h,h2,h3,h4⟩
theorem yQ{α:Type}{xs:List α}{j:Nat}{v:α}(h:xs[j]? = some v):oR xs (j:Int)=some v:=by
 have hj:j < xs.length:=(yZ.mp h).1
 have e:UL xs.length (j:Int)=some j:=by
  unfold UL
  rw[if_pos (by lia),if_pos (by lia)];simp
 unfold oR;rw[e];exact h
def Lq(b:Expr):Prop:=∀ o i,subscripted b false o i=operate [o,i] (getItem o i)
def WW(X:Cx)(r:R2):Prop:=
 ∀(value slice:Expr)(pins:List (Addr × Obj))(s:Shared)(σ:St)(H:Hp)(x y:V)(v u:Value)(Q:VK),Inv X pins σ H s->RelV x v->RelV y u->r x y H Q →
  subscripted slice false v u=operate [v,u] (getItem v u)->wpAny (model X.prog X.w) X.A (subscriptTail value slice v u) (EP X pins σ Q) X.xe s
def MtR(X:Cx)(id:String)(r:V->List V->Hp->VK->Prop):Prop:=
 ∀(pins:List (Addr × Obj))(s:Shared)(σ:St)(H:Hp)(x:V)(xs:List V)(v:Value)(us:List Value)(Q:VK),Inv X pins σ H s->RelV x v->Vals xs us->r x xs H Q →
  wpAny (model X.prog X.w) X.A (call (.builtin id) (v :: us)) (EP X pins σ Q) X.xe s
section
variable{X:Cx}{a b:Expr}{ta tb:TE}{pos:Pos}
theorem WW.or{r r':R2}(h:WW X r)(h':WW X r'):WW X (fun x y H Q=>r x y H Q ∨ r' x y H Q):=by
 intro value slice pins s σ H x y v u Q I rx ry q hs
 rcases q with q | q
 ·exact h value slice pins s σ H x y v u Q I rx ry q hs
 ·exact h' value slice pins s σ H x y v u Q I rx ry q hs
theorem yB{r:R2}(hr:WW X r)(ha:PE X a ta)(hb:PE X b tb)(hs:Lq b):PE X (.Subscript a b pos) (tOp r ta tb):=by
 intro pins s σ H Q I h
 exact Subscript_ (qAA ha hb I h fun v u s2 x y H2 I2 rx ry q=>hr a b pins s2 σ H2 x y v u Q I2 rx ry q (hs _ _))
def Xx(K:PySem.W.Frag):R2:=fun x y H Q => ∃ p xs i v,x = .ref p/\y = .int i/\aX K H p xs/\oR xs i=some v/\Q v H
def fj(K:PySem.W.Frag):R2:=fun x y H Q => ∃ p xs i v,x = .ref p/\y = .int i/\aH K H p xs/\oR xs i=some v/\Q v H
def qBA:R2:=fun x y H Q => ∃ z i c,x = .str z/\y = .int i/\z.length<=sizeLine/\oR z.cps.toList i=some c/\Q (.str ⟨#[c]⟩) H
theorem yU:WW X (Xx X.K):=by
 intro value slice pins s σ H x y v u Q I rx ry h hs
 obtain⟨p,xs,i,z,rfl,rfl,hq,he,q⟩:=h
 cases rx
 obtain⟨t,rfl⟩:=ry
 obtain⟨its,r,pl,hz⟩:=I.list hq
 obtain⟨j,h1,h2,h3,h4,h5⟩:=DX he
 obtain⟨w,ew,QX⟩:=r.get h2
 have hl:=r.length
 have hn:=pO
 have fin:EP X pins σ Q w s:=⟨z,H,I,QX,q⟩
 by_cases h0:0<=i
 ·have hj:i.toNat=j:=by
   rw[seqIndex_of h0 h5]at h1
   exact oN h1
  exact item_listR pl.isList h0 (by lia) (by rw[hj];simpa using ew) fin hs
 ·have hj:(i+(its.toArray.size:Int)).toNat=j:=by
   rw[seqIndex_neg (by lia) h4]at h1
   rw[zc,<-hl]
   exact oN h1
  exact subscriptTail_builtinR (x:=w) pl.isList.typeIs slot_list_getitem.lookup
   (wpAny_getItem_list_neg (Q:=fun r s'=>r=w/\EP X pins σ Q r s') pl.isList (by lia) (by rw[List.size_toArray] <;> lia) (by lia) (by rw[hj];simpa using ew) ⟨rfl,fin⟩) hs
theorem zH:WW X (fj X.K):=by
 intro value slice pins s σ H x y v u Q I rx ry h hs
 obtain⟨p,xs,i,z,rfl,rfl,hq,he,q⟩:=h
 cases rx
 obtain⟨t,rfl⟩:=ry
 obtain⟨its,r,pl,hz⟩:=I.tuple hq
 obtain⟨j,h1,h2,h3,h4,h5⟩:=DX he
 obtain⟨w,ew,QX⟩:=r.get h2
 have hl:=r.length
 have hn:=pO
 have fin:EP X pins σ Q w s:=⟨z,H,I,QX,q⟩
 exact subscriptTail_builtinR (x:=w) pl.typeIs slot_tuple_getitem.lookup
  (getItem_tuple (j:=j) (Q:=fun r s'=>r=w/\EP X pins σ Q r s') pl (by lia) (by lia) (by rw[List.size_toArray,<-hl];exact h1) (by simpa using ew) ⟨rfl,fin⟩) hs
theorem Ry:WW X qBA:=by
 intro value slice pins s σ H x y v u Q I rx ry h hs
 obtain⟨z,i,c,rfl,rfl,hz,he,q⟩:=h
 obtain⟨t,rfl⟩:=rx
 obtain⟨t',rfl⟩:=ry
 obtain⟨j,h1,h2,h3,h4,h5⟩:=DX he
 have hl:z.cps.toList.length=z.length:=by simp [Str.length]
 rw[hl]at h1 h4 h5
 have hn:=pO
 exact tail_any (typeIs_str s z t) slot_str_getitem.lookup (getItem_str (c:=c) (by
  have e1:decide (i < -(2 ^ 63:Int))=false:=decide_eq_false (by lia)
  have e2:decide (i ≥ 2 ^ 63)=false:=decide_eq_false (by lia)
  rw[e1,e2,Bool.or_false]) (by rw[h1];simpa using h2) ⟨.str ⟨#[c]⟩,H,I.tok _,⟨_,rfl⟩,q⟩) hs
def rIx(K:PySem.W.Frag):R2:=fun x y H Q=>Xx K x y H Q ∨ fj K x y H Q ∨ qBA x y H Q
theorem Rz:WW X (rIx X.K):=yU.or (zH.or Ry)
theorem Ii(its:List Value)(n j:Nat)(u:Value):Obj.mapSeq (·.setIfInBounds j u) { cls:=.type "list",data:=.seq its.toArray n } = { cls:=.type "list",data:=.seq (its.set j u).toArray n }:=by
 simp [Obj.mapSeq]
theorem Inv.lst{pins:List (Addr × Obj)}{σ:St}{H:Hp}{s:Shared}{p:Addr}{xs:List V}(I:Inv X pins σ H s)(h:H p=some (.lst xs)) :
  ∃(its:List Value)(n:Nat),Vals xs its/\s.heap.get? p=some { cls:=.type "list",data:=.seq its.toArray n }/\xs.length<=sizeLine:=by
 obtain⟨z,its,n,r,e⟩:=I.hok p _ h
 exact⟨its,n,r,e,z⟩
theorem Inv.Yb{pins:List (Addr × Obj)}{σ:St}{H:Hp}{s:Shared}{p:Addr}{xs ys:List V}{its its':List Value}{n n':Nat}{f:Obj->Obj}(I:Inv X pins σ H s)(h:H p=some (.lst xs))
  (ho:s.heap.get? p=some { cls:=.type "list",data:=.seq its.toArray n }) (hf:f { cls:=.type "list",data:=.seq its.toArray n } = { cls:=.type "list",data:=.seq its'.toArray n' }) (r:Vals ys its') (hz:ys.length<=sizeLine) (t:Nat) :
  Inv X pins σ (upd H p (.lst ys)) { s with heap:=s.heap.update p f,toks:=t }:=by
 have e:(s.heap.update p f).get? p=some { cls:=.type "list",data:=.seq its'.toArray n' }:=by
  rw[Heap.get?_update_self f ho (by rw[hf] <;> rfl),hf]
 refine I.write (x:=p) (e:=p) (by rw[h];trivial) (.inl rfl) (fun b u hb q=>(Heap.get?_update_other _ _ (Ne.symm hb)).trans q) ⟨_,e⟩ ?_
 exact⟨hz,its',n',r,e⟩
def qB9:V->V->V->Hp->(Hp->Prop)->Prop:=fun o i v H Q => ∃ p xs k j,o = .ref p/\i = .int k/\H p=some (.lst xs)/\UL xs.length k=some j/\Q (upd H p (.lst (xs.set j v)))
theorem set_list:qCC X qB9:=by
 intro pins s σ H o i v ov iv u Q I ro ri rv h
 obtain⟨p,xs,k,j,rfl,rfl,hp,hj,q⟩:=h
 cases ro
 obtain⟨t,rfl⟩:=ri
 obtain⟨its,n,r,ho,hz⟩:=I.lst hp
 obtain⟨h1,h2,h3,h4⟩:=Ko hj
 have hl:=r.length
 have hn:=pO
 have I':Inv X pins σ (upd H p (.lst (xs.set j v))) { s with heap:=s.heap.update p (Obj.mapSeq (·.setIfInBounds j u)) }:=
  I.Yb hp ho (Ii its n j u) (r.set rv j) (by rw[List.length_set];exact hz) s.toks
 by_cases h0:0<=k
 ·have hk:k.toNat=j:=by
   rw[seqIndex_of h0 h4]at h1
   exact oN h1
  exact PySem.W.ki_setAt ho h0 (by lia) (by rw[zc,<-hl];exact h4) (by rw[hk];exact⟨_,I',q⟩)
 ·have hk:(k+(its.toArray.size:Int)).toNat=j:=by
   rw[seqIndex_neg (by lia) h3]at h1
   rw[zc,<-hl]
   exact oN h1
  exact PySem.W.ki_setBack ho (by lia) (by rw[zc,<-hl];exact h3) (by lia) (by rw[hk];exact⟨_,I',q⟩)
theorem Bq(lo hi:Option Int)(n:Nat):(sliceBounds lo hi none n).1=((HT.iV n 0 lo:Nat):Int)/\(sliceBounds lo hi none n).2.1=((HT.iV n n hi:Nat):Int)/\(sliceBounds lo hi none n).2.2=1:=by
 refine⟨?_,?_,rfl⟩
 ·cases lo with
  | none=>simp [sliceBounds,HT.iV]
  | some i=>
   simp only[sliceBounds,HT.iV,Option.getD_none,show (1:Int) > 0 by decide,if_true]
   by_cases h:i < 0
   ·simp only[h,if_true] <;> lia
   ·simp only[h,if_false] <;> lia
 ·cases hi with
  | none=>simp [sliceBounds,HT.iV]
  | some i=>
   simp only[sliceBounds,HT.iV,Option.getD_none,show (1:Int) > 0 by decide,if_true]
   by_cases h:i < 0
   ·simp only[h,if_true] <;> lia
   ·simp only[h,if_false] <;> lia
theorem yf(its:List Value)(lo hi:Option Int):slicePick its.toArray lo hi none=((its.drop (HT.iV its.length 0 lo)).take (HT.iV its.length its.length hi - HT.iV its.length 0 lo)).toArray:=by
 obtain⟨h1,h2,h3⟩:=Bq lo hi its.toArray.size
 unfold slicePick
 rw[h1,h2,h3]
 simp only[sliceRange_one,pick_run,List.size_toArray] <;> rfl
def qCY(K:PySem.W.Frag):V->Option Int->Option Int->Hp->VK->Prop:=fun x lo hi H Q => ∃ a xs,x = .ref a/\aX K H a xs/\∀ p,H p=none->Q (.ref p) (upd H p (.lst (lu xs lo hi)))
theorem q9:SlR X (qCY X.K):=by
 intro pins s σ H x v vl vu lo hi sl Q I rx hs pl pu h
 obtain⟨a,xs,rfl,hx,q⟩:=h
 cases rx
 obtain⟨its,r,ht,hz⟩:=I.list hx
 have hlen:=r.length
 refine⟨"list",_,slot_list_getitem.lookup,ht.isList.typeIs,?_⟩
 refine wpAny_getItem_list_slice ht.isList hs pl pu .none (by simp) ?_ (by rw[List.size_toArray] <;> lia)
 rw[yf,<-hlen]
 refine⟨.ref s.heap.objs.size,_,I.laid (t':=s.toks) (o:=.lst (lu xs lo hi)) (fun b ob q=>Heap.get?_push_of_some _ q) (bu _) ?_,rfl,q _ (I.hok.fresh (bu _))⟩
 exact⟨Nat.le_trans (vA xs lo hi) hz,_,0,(r.drop (HT.iV xs.length 0 lo)).take (HT.iV xs.length xs.length hi - HT.iV xs.length 0 lo),Heap.get?_push_size _ rfl⟩
def pU:V->Bool
 | .non=>true
 | .bl _=>true
 | .int _=>true
 | .str _=>true
 | _=>false
def Ua:V->V->Bool
 | .non,.non=>true
 | .bl a,.bl b=>a == b
 | .bl a,.int b=>(if a then 1 else 0) == b
 | .int a,.bl b=>a == (if b then 1 else 0)
 | .int a,.int b=>a == b
 | .str a,.str b=>a == b
 | _,_=>false
theorem qA4{A:Around}{s:Shared}{y x:V}{u v:Value}(ry:RelV y u)(rx:RelV x v)(fy:pU y=true)(fx:pU x=true):SeqAt.EqAt A s u v (Ua y x):=by
 cases y with
 | non=>
  cases ry
  cases x with
  | non=>cases rx;exact SeqAt.EqAt.same _
  | bl b=>cases rx;exact SeqAt.EqAt.none_bool b
  | int b=>obtain⟨t,rfl⟩:=rx;exact SeqAt.EqAt.none_int b t
  | str b=>obtain⟨t,rfl⟩:=rx;exact SeqAt.EqAt.none_str b t
  | _=>exact absurd (show false=true from fx) mU
 | bl a=>
  cases ry
  cases x with
  | non=>cases rx;exact SeqAt.EqAt.bool_none a
  | bl b=>cases rx;exact SeqAt.EqAt.bool_bool a b
  | int b=>obtain⟨t,rfl⟩:=rx;exact SeqAt.EqAt.bool_int a b t
  | str b=>obtain⟨t,rfl⟩:=rx;exact SeqAt.EqAt.bool_str a b t
  | _=>exact absurd (show false=true from fx) mU
 | int a=>
  obtain⟨t',rfl⟩:=ry
  cases x with
  | non=>cases rx;exact SeqAt.EqAt.int_none a t'
  | bl b=>cases rx;exact SeqAt.EqAt.int_bool a t' b
  | int b=>obtain⟨t,rfl⟩:=rx;exact SeqAt.EqAt.int_int a t' b t
  | str b=>obtain⟨t,rfl⟩:=rx;exact SeqAt.EqAt.int_str a t' b t
  | _=>exact absurd (show false=true from fx) mU
 | str a=>
  obtain⟨t',rfl⟩:=ry
  cases x with
  | non=>cases rx;exact SeqAt.EqAt.str_none a t'
  | bl b=>cases rx;exact SeqAt.EqAt.str_bool a t' b
  | int b=>obtain⟨t,rfl⟩:=rx;exact SeqAt.EqAt.str_int a t' b t
  | str b=>obtain⟨t,rfl⟩:=rx;exact SeqAt.EqAt.str_str a t' b t
  | _=>exact absurd (show false=true from fx) mU
 | _=>exact absurd (show false=true from fy) mU
def JG(x:V)(u:Value):Bool:=match u with
 | .none=>Ua .non x
 | .bool b=>Ua (.bl b) x
 | .int i _=>Ua (.int i) x
 | .str z _=>Ua (.str z) x
 | _=>false
theorem Su{x y:V}{u:Value}(r:RelV y u)(f:pU y=true):JG x u=Ua y x:=by
 cases y with
 | non=>cases r;rfl
 | bl b=>cases r;rfl
 | int i=>obtain⟨t,rfl⟩:=r;rfl
 | str z=>obtain⟨t,rfl⟩:=r;rfl
 | _=>exact absurd (show false=true from f) mU
theorem tM{x:V}:∀ {xs:List V} {us:List Value},Vals xs us->xs.all pU=true->us.any (JG x)=xs.any fun y=>Ua y x
 | _,_,.nil,_=>rfl
 | y :: xs,u :: us,.cons r t,f=>by
  rw[List.all_cons,Bool.and_eq_true]at f
  rw[List.any_cons,List.any_cons,Su r f.1,tM t f.2]
theorem pN{A:Around}{s:Shared}{x:V}{v:Value}(rx:RelV x v)(fx:pU x=true):∀ {xs:List V} {us:List Value},Vals xs us->xs.all pU=true->∀ u∈us,SeqAt.EqAt A s u v (JG x u)
 | _,_,.nil,_=>fun u hu=>by cases hu
 | y :: xs,u :: us,.cons r t,f=>fun u' hu=>by
  rw[List.all_cons,Bool.and_eq_true]at f
  rcases dG.mp hu with rfl | hu
  ·rw[Su r f.1];exact qA4 r rx f.1 fx
  ·exact pN rx fx t f.2 u' hu
def inV(x:V)(xs:List V):Bool:=xs.any fun y=>Ua y x
def rIn(K:PySem.W.Frag)(neg:Bool):R2:=fun x y H Q => ∃ p xs,y = .ref p/\(aX K H p xs ∨ aH K H p xs)/\pU x=true/\xs.all pU=true/\Q (.bl (if neg then !inV x xs else inV x xs)) H
theorem jL:mQ X (compareOp .In) (rIn X.K false):=by
 intro pins s σ H x y v u Q I rx ry h
 obtain⟨p,xs,rfl,hq,fx,fs,q⟩:=h
 cases ry
 rcases hq with hq | hq
 ·obtain⟨its,r,pl,hz⟩:=I.list hq
  refine SeqAt.in_listAt (JG x) pl.isList (fun w hw=>pN rx fx r fs w (by simpa using hw)) ⟨.bl _,H,I,rfl,?_⟩
  rw[show its.toArray.any (JG x)=its.any (JG x) by simp,tM r fs]
  exact q
 ·obtain⟨its,r,pl,hz⟩:=I.tuple hq
  refine SeqAt.in_tupleAt (JG x) pl (fun w hw=>pN rx fx r fs w (by simpa using hw)) ⟨.bl _,H,I,rfl,?_⟩
  rw[show its.toArray.any (JG x)=its.any (JG x) by simp,tM r fs]
  exact q
theorem du:mQ X (compareOp .NotIn) (rIn X.K true):=by
 intro pins s σ H x y v u Q I rx ry h
 obtain⟨p,xs,rfl,hq,fx,fs,q⟩:=h
 cases ry
 rcases hq with hq | hq
 ·obtain⟨its,r,pl,hz⟩:=I.list hq
  refine SeqAt.notIn_listAt (JG x) pl.isList (fun w hw=>pN rx fx r fs w (by simpa using hw)) ⟨.bl _,H,I,rfl,?_⟩
  rw[show its.toArray.any (JG x)=its.any (JG x) by simp,tM r fs]
  exact q
 ·obtain⟨its,r,pl,hz⟩:=I.tuple hq
  refine SeqAt.notIn_tupleAt (JG x) pl (fun w hw=>pN rx fx r fs w (by simpa using hw)) ⟨.bl _,H,I,rfl,?_⟩
  rw[show its.toArray.any (JG x)=its.any (JG x) by simp,tM r fs]
  exact q
theorem zN:mL X (.builtin "len") (fun xs H Q => ∃ p ys,xs=[.ref p]/\(aX X.K H p ys ∨ aH X.K H p ys)/\Q (.int ys.length) H):=by
 intro pins s σ H xs us Q I r h
 obtain⟨p,ys,rfl,hq,q⟩:=h
 obtain⟨u,rfl,rx⟩:=vals1 r
 cases rx
 have hn:=pO
 rcases hq with hq | hq
 ·obtain⟨its,r',pl,hz⟩:=I.list hq
  have hlen:=r'.length
  exact Calls.call_len_list pl.isList (by simp only[List.size_toArray] <;> lia) ⟨.int ys.length,H,I.tok _,⟨s.toks+1,by rw[List.size_toArray,hlen]⟩,q⟩
 ·obtain⟨its,r',pl,hz⟩:=I.tuple hq
  have hlen:=r'.length
  exact len_tuple pl (by simp only[List.size_toArray] <;> lia) ⟨.int ys.length,H,I.tok _,⟨s.toks+1,by rw[List.size_toArray,hlen]⟩,q⟩
theorem DG:mL X (.builtin "len") (fun xs H Q => ∃ z,xs=[.str z]/\z.length<=sizeLine/\Q (.int z.length) H):=by
 intro pins s σ H xs us Q I r h
 obtain⟨z,rfl,hz,q⟩:=h
 obtain⟨u,rfl,t,rfl⟩:=vals1 r
 have hn:=pO
 exact len_str (by lia) ⟨.int z.length,H,I.tok _,⟨_,rfl⟩,q⟩
theorem eO:mL X (.type "list") (fun xs H Q => ∃ p ys,xs=[.ref p]/\(aX X.K H p ys ∨ aH X.K H p ys)/\∀ l,H l=none->Q (.ref l) (upd H l (.lst ys))):=by
 intro pins s σ H xs us Q I r h
 obtain⟨p,ys,rfl,hq,q⟩:=h
 obtain⟨u,rfl,rx⟩:=vals1 r
 cases rx
 have fin:∀(its:List Value),Vals ys its->ys.length<=sizeLine->∀(h':Heap)(c':Nat),(∀ b o',s.heap.get? b=some o'->h'.get? b=some o') →
   h'.get? s.heap.objs.size=some { cls:=.type "list",dict:=none,data:=.seq its.toArray c',slots:=#[] }->EP X pins σ Q (.ref s.heap.objs.size) { s with heap:=h' }:=fun its r' hz h' c' kp e=>
  ⟨.ref s.heap.objs.size,_,I.laid (t':=s.toks) kp (bu _) (show cV X.prog X.w _ h' _ (.lst ys) from ⟨hz,its,c',r',e⟩),rfl,q _ (I.hok.fresh (bu _))⟩
 rcases hq with hq | hq
 ·obtain⟨its,r',pl,hz⟩:=I.list hq
  have hlen:=r'.length
  obtain⟨o,ho,hc,n,hd⟩:=pl.isList
  exact call_list_seq p (.inl rfl) ho hc hd (fun h' c' kp e=>fin its r' hz h' c' kp e) (by simp only[List.size_toArray] <;> lia)
 ·obtain⟨its,r',pl,hz⟩:=I.tuple hq
  have hlen:=r'.length
  obtain⟨o,ho,hc,n,hd⟩:=pl
  exact call_list_seq p (.inr rfl) ho hc hd (fun h' c' kp e=>fin its r' hz h' c' kp e) (by simp only[List.size_toArray] <;> lia)
theorem zX:mL X (.type "tuple") (fun xs H Q => ∃ p ys,xs=[.ref p]/\((aX X.K H p ys/\∀ l,H l=none->Q (.ref l) (upd H l (.tup ys))) ∨ (aH X.K H p ys/\Q (.ref p) H))):=by
 intro pins s σ H xs us Q I r h
 obtain⟨p,ys,rfl,h⟩:=h
 obtain⟨u,rfl,rx⟩:=vals1 r
 cases rx
 rcases h with ⟨hq,q⟩ | ⟨hq,q⟩
 ·obtain⟨its,r',pl,hz⟩:=I.list hq
  have hlen:=r'.length
  refine call_tuple_list pl.isList (fun h' kp=>?_) (by simp only[List.size_toArray] <;> lia)
  have I1:Inv X pins σ H { s with heap:=h' }:=I.kept (t':=s.toks) kp
  have I2:Inv X pins σ (upd H h'.objs.size (.tup ys)) { s with heap:=h'.push { cls:=.type "tuple",data:=.seq its.toArray } }:=
   I1.laid (t':=s.toks) (fun b o e=>Heap.get?_push_of_some _ e) (bu _) (show cV X.prog X.w _ _ _ (.tup ys) from ⟨hz,its,r',IsTup.new _ _⟩)
  exact⟨.ref h'.objs.size,_,I2,rfl,q _ (I1.hok.fresh (bu _))⟩
 ·obtain⟨its,r',pl,hz⟩:=I.tuple hq
  exact call_tuple_same pl ⟨.ref p,H,I,rfl,q⟩
def tyV(K:PySem.W.Frag)(T:String)(x:V)(H:Hp):Prop:=match x with
 | .str _=>T = "str"
 | .int _=>T = "int"
 | .ref p=>(T = "list" /\ ∃ xs,aX K H p xs) ∨ (T = "tuple" /\ ∃ o,K.lookup p=some o/\o.cls = .type "tuple" /\ o.dict=none) ∨
   (T = "dict" /\ ((∃ kvs,H p=some (.dK kvs)) ∨ ∃ kvs,H p=some (.dT kvs))) ∨ (T = "set" /\ ∃ S n,H p=some (.set S n))
 | _=>False
theorem Q4{pins:List (Addr × Obj)}{σ:St}{H:Hp}{s:Shared}{T:String}{x:V}{v:Value}(I:Inv X pins σ H s)(r:RelV x v)(ty:tyV X.K T x H) :
  s.TypeIs v T/\∀ a,v = .ref a->∃ ob,s.heap.get? a=some ob/\ob.dict=none:=by
 cases x with
 | str z=>
  obtain⟨t,rfl⟩:=r
  cases (show T = "str" from ty)
  exact⟨typeIs_str s z t,fun _ e=>nomatch e⟩
 | int i=>
  obtain⟨t,rfl⟩:=r
  cases (show T = "int" from ty)
  exact⟨typeIs_int s i t,fun _ e=>nomatch e⟩
 | ref p=>
  cases r
  rcases ty with ⟨rfl,xs,hq⟩ | ⟨rfl,o,hk,hc,hd⟩ | ⟨rfl,hk⟩ | ⟨rfl,S,n,hk⟩
  ·obtain⟨its,_,pl,_⟩:=I.list hq
   refine⟨pl.isList.typeIs,fun a e=>?_⟩
   cases e
   obtain⟨o,n,e,c,hd,_⟩:=pl
   exact⟨o,e,hd⟩
  ·refine⟨⟨o,I.vC p o hk,hc⟩,fun a e=>?_⟩
   cases e
   exact⟨o,I.vC _ o hk,hd⟩
  ·have z:∃ o,s.heap.get? p=some o/\o.ExactDict:=by
    rcases hk with ⟨kvs,hk⟩ | ⟨kvs,hk⟩
    ·obtain⟨_,_,_,_,o,_,_,e,ex,_⟩:=I.hok p _ hk
     exact⟨o,e,ex⟩
    ·obtain⟨_,_,_,_,o,_,_,e,ex,_⟩:=I.hok p _ hk
     exact⟨o,e,ex⟩
   obtain⟨o,e,ex⟩:=z
   refine⟨⟨o,e,ex.1⟩,fun a e2=>?_⟩
   cases e2
   exact⟨o,e,ex.2.1⟩
  ·obtain⟨o,_,_,_,e,ex,_⟩:=I.hok p _ hk
   refine⟨⟨o,e,ex.1⟩,fun a e2=>?_⟩
   cases e2
   exact⟨o,e,ex.2.1⟩
 | _=>exact False.elim ty
def qCP(K:PySem.W.Frag)(T:String)(r:V->List V->Hp->VK->Prop)(to:TE):TE:=fun σ H Q=>to σ H fun x H1=>tyV K T x H1/\r x [] H1 Q
def tBM(K:PySem.W.Frag)(T:String)(r:V->List V->Hp->VK->Prop)(to:TE)(t:TA):TE:=fun σ H Q=>to σ H fun x H1=>tyV K T x H1/\t σ H1 fun xs H2=>r x xs H2 Q
variable{o e:Expr}{es:List Expr}{to:TE}{t:TA}{name:Str}{apos cpos:Pos}{T id:String}{r:V->List V->Hp->VK->Prop}
theorem Y8(pa:PlainAttrs T)(slot:Slot T name id)(hty:typeOf (.builtin id)=pure (.type "method_descriptor"))(hm:MtR X id r)(ho:PE X o to)
  (hbase:attributeBase o name X.env (eval o X.env)=eval o X.env:=by rfl) (hline:(apos.endLine == cpos.line)=true:=by rfl):PE X (.Call (.Attribute o name apos) [] [] cpos) (qCP X.K T r to):=by
 intro pins s σ H Q I h
 refine wpAny_Call_method0_late hbase hline (cA (ho pins s σ H _ I h) fun v s1 ⟨x,H1,I1,r1,ty,q1⟩=>?_)
 obtain⟨h1,h2⟩:=Q4 I1 r1 ty
 exact⟨T,id,pa,slot,hty,h1,h2,Calls.callWith_builtin rfl (PySem.evalArgs_none (hm pins s1 σ H1 x [] v [] Q I1 r1 .nil q1))⟩
theorem bz(pa:PlainAttrs T)(slot:Slot T name id)(hty:typeOf (.builtin id)=pure (.type "method_descriptor"))(hm:MtR X id r)(ho:PE X o to)(ha:PA X (e :: es) t)
  (hbase:attributeBase o name X.env (eval o X.env)=eval o X.env:=by rfl)
  (hfew:((backTo cpos (starEach (e :: es) X.env)).all (fun x => !x.1) && (backToKw cpos (keywordEach [] X.env)).all (fun x=>x.1.isSome)
   && decide ((e :: es).length+([]:List Keyword).length+(if ([]:List Keyword).isEmpty then 0 else 1) < 30))=true:=by rfl)
  (hline:(apos.endLine == cpos.line)=true:=by rfl) (hs:starEach (e :: es) X.env=(false,eval e X.env) :: starEach es X.env:=by rfl) (hplain:(backTo cpos (starEach es X.env)).any (·.1)=false:=by rfl) :
  PE X (.Call (.Attribute o name apos) (e :: es) [] cpos) (tBM X.K T r to t):=by
 intro pins s σ H Q I h
 refine wpAny_Call_method_late hbase hfew hline rfl (cA (ho pins s σ H _ I h) fun v s1 ⟨x,H1,I1,r1,ty,q1⟩=>?_)
 obtain⟨h1,h2⟩:=Q4 I1 r1 ty
 refine⟨T,id,pa,slot,hty,h1,h2,?_⟩
 have hA:=ha cpos pins s1 σ H1 _ I1 q1
 rw[hs]at hA ⊢
 refine Calls.callWith_builtin (by show (false || (backTo cpos (starEach es X.env)).any (·.1))=false;rw[hplain] <;> rfl) (Calls.evalArgs_plain ?_)
 exact cA hA fun us s2 ⟨vs,H2,I2,r2,q2⟩=>hm pins s2 σ H2 x vs v us Q I2 r1 r2 q2
end
def MtM(X:Cx)(id:String)(r:V->List V->Hp->VK->Prop):Prop:=
 ∀(pins:List (Addr × Obj))(s:Shared)(σ:St)(H:Hp)(x:V)(xs:List V)(v:Value)(us:List Value)(Q:VK),Inv X pins σ H s->RelV x v->Vals xs us->r x xs H Q →
  wpAny (model X.prog X.w) X.A (call (.builtin id) (v :: us)) (EP X pins σ Q) X.xe s
theorem Vals.one:∀ {x:V} {us:List Value},Vals [x] us->∃ u,us=[u]/\RelV x u
 | _,_,.cons r .nil=>⟨_,rfl,r⟩
theorem Vals.zero:∀ {us:List Value},Vals [] us->us=[]
 | _,.nil=>rfl
theorem Vals.dropLast{xs:List V}{us:List Value}(h:Vals xs us):Vals xs.dropLast us.dropLast:=by
 induction h with
 | nil=>exact .nil
 | cons r t ih=>
  cases t with
  | nil=>exact .nil
  | cons q t'=>exact .cons r ih
theorem Vals.eraseIdx:∀ {xs:List V} {us:List Value} (i:Nat),Vals xs us->Vals (xs.eraseIdx i) (us.eraseIdx i)
 | _,_,_,.nil=>.nil
 | _,_,0,.cons _ t=>t
 | _,_,i+1,.cons r t=>.cons r (Vals.eraseIdx i t)
theorem JF{α:Type}(l:List α):l.eraseIdx (l.length - 1)=l.dropLast:=by
 induction l with
 | nil=>rfl
 | cons a r ih=>
  cases r with
  | nil=>rfl
  | cons b r=>
   have e:(a :: b :: r).length - 1=((b :: r).length - 1)+1:=by
    have h1:(a :: b :: r).length=r.length+2:=rfl
    have h2:(b :: r).length=r.length+1:=rfl
    lia
   rw[e,List.eraseIdx_cons_succ,ih]
   all_goals rfl
theorem Aq{α:Type}:∀(l:List α)(i:Nat),(l.eraseIdx i).length<=l.length
 | [],_=>bu _
 | _ :: _,0=>Nat.le_succ _
 | _ :: r,i+1=>Nat.succ_le_succ (Aq r i)
section
variable{X:Cx}{pins:List (Addr × Obj)}{σ:St}{H:Hp}{s:Shared}{l b:Addr}{xs ys zs:List V}
theorem Inv.Vh{its its':List Value}{n:Nat}{f:Array Value->Array Value}{t':Nat}(I:Inv X pins σ H s)(hH:H l=some (.lst xs))
  (e:s.heap.get? l=some { cls:=.type "list",data:=.seq its.toArray n }) (hf:f its.toArray=its'.toArray) (hv:Vals ys its') (hz:ys.length<=sizeLine) :
  Inv X pins σ (upd H l (.lst ys)) { s with heap:=s.heap.update l (Obj.mapSeq f),toks:=t' }:=by
 have q:=PySem.IsL.update e f
 rw[hf]at q
 refine I.write (x:=l) (e:=l) (by rw[hH];exact trivial) (.inl rfl) (fun b' u hb hu=>(Heap.get?_update_other s.heap (Obj.mapSeq f) (Ne.symm hb)).trans hu) ⟨_,q⟩ ?_
 exact⟨hz,its',_,hv,q⟩
theorem Inv.qDF{its:List Value}{t':Nat}(I:Inv X pins σ H s)(hv:Vals ys its)(hz:ys.length<=sizeLine) :
  Inv X pins σ (upd H s.heap.objs.size (.lst ys)) { s with heap:=s.heap.push { cls:=.type "list",data:=.seq its.toArray },toks:=t' }:=
 I.laid (fun _ _ q=>Heap.get?_push_of_some _ q) (bu _) ⟨hz,its,0,hv,Heap.get?_push_size _ rfl⟩
theorem Inv.fresh(I:Inv X pins σ H s):H s.heap.objs.size=none:=I.hok.fresh (bu _)
theorem Inv.Iv(I:Inv X pins σ H s)(hH:H l=some (.lst xs)):xs.length<=sizeLine/\∃(its:List Value)(n:Nat),Vals xs its/\xs.length=its.length/\s.heap.get? l=some { cls:=.type "list",data:=.seq its.toArray n }:=by
 obtain⟨z,its,n,r,e⟩:=I.hok l _ hH
 exact⟨z,its,n,r,r.length,e⟩
theorem RD{n:Nat}(h:n<=sizeLine):Builtin.List.listTooLong n=false:=by
 unfold Builtin.List.listTooLong
 exact decide_eq_false (by lia)
end
section
variable{X:Cx}
def Ux:V->List V->Hp->VK->Prop:=fun x vs H Q => ∃ l xs y,x = .ref l/\vs=[y]/\H l=some (.lst xs)/\xs.length < sizeLine/\Q .non (upd H l (.lst (xs++[y])))
theorem yH:MtM X "list.append" Ux:=by
 intro pins s σ H x vs v us Q I rx rv h
 obtain⟨l,xs,y,rfl,rfl,hH,hz,q⟩:=h
 cases rx
 obtain⟨u,rfl,ru⟩:=rv.one
 obtain⟨z,its,n,r,hl,e⟩:=I.Iv hH
 refine call_meets F.slot_list_append ⟨_,e,rfl⟩ F.entry_list_append (F.args_list_append_2 _ _) (PySem.list_append l its.toArray n u (by rw[zc];lia)) ⟨e,?_⟩
 refine⟨.non,_,I.Vh (its':=its++[u]) hH e (by simp) (r.append (.cons ru .nil)) ?_,rfl,q⟩
 rw[dJ,jj]
 lia
def Uw:V->List V->Hp->VK->Prop:=fun x vs H Q => ∃ l b xs zs,x = .ref l/\vs=[.ref b]/\H l=some (.lst xs)/\H b=some (.lst zs)/\xs.length+zs.length<=sizeLine/\Q .non (upd H l (.lst (xs++zs)))
theorem jM:MtM X "list.extend" Uw:=by
 intro pins s σ H x vs v us Q I rx rv h
 obtain⟨l,b,xs,zs,rfl,rfl,hH,hB,hz,q⟩:=h
 cases rx
 obtain⟨u,rfl,ru⟩:=rv.one
 cases ru
 obtain⟨z,its,n,r,hl,e⟩:=I.Iv hH
 obtain⟨z2,its2,n2,r2,hl2,e2⟩:=I.Iv hB
 have hsz:its.toArray.size+its2.toArray.size<=sizeLine:=by rw[zc,zc];lia
 have qC0:¬ (!its.toArray.isEmpty && Builtin.List.listTooLong (its.toArray.size+its2.toArray.size))=true:=by
  rw[RD hsz,Bool.and_false]
  exact mU
 refine call_meets F.slot_list_extend ⟨_,e,rfl⟩ F.entry_list_extend (F.args_list_extend_2 _ _)
  (AutoSeq1.list_extend_list_list_0 l its.toArray n b its2.toArray n2 qC0 (by rw[zc];lia) (by lia)) ⟨e,e2,?_⟩
 refine⟨.non,_,I.Vh (its':=its++its2) hH e (by simp) (r.append r2) ?_,rfl,q⟩
 rw[dJ]
 lia
def qCZ:V->List V->Hp->VK->Prop:=fun x vs H Q => ∃ l xs y,x = .ref l/\vs=[]/\H l=some (.lst xs)/\xs[xs.length - 1]? = some y/\Q y (upd H l (.lst xs.dropLast))
theorem YS:MtM X "list.pop" qCZ:=by
 intro pins s σ H x vs v us Q I rx rv h
 obtain⟨l,xs,y,rfl,rfl,hH,hy,q⟩:=h
 cases rx
 have hus:=rv.zero
 subst hus
 obtain⟨z,its,n,r,hl,e⟩:=I.Iv hH
 obtain⟨u,hu,ru⟩:=r.get hy
 have hy':its.toArray[its.toArray.size - 1]? = some u:=by
  show its.toArray[its.length - 1]? = some u
  rw[<-Array.getElem?_toList,<-hl]
  exact hu
 refine call_meets F.slot_list_pop ⟨_,e,rfl⟩ F.entry_list_pop (F.args_list_pop_1 _) (MeetsSeq.list_pop_last l its.toArray n u hy' (by rw[zc];lia)) ⟨e,?_⟩
 refine⟨y,_,I.Vh (its':=its.dropLast) hH e ?_ r.dropLast ?_,ru,q⟩
 ·show its.toArray.eraseIdxIfInBounds (its.toArray.size - 1)=its.dropLast.toArray
  rw[zc,List.eraseIdxIfInBounds_toArray,JF]
 ·rw[List.length_dropLast]
  lia
def Xw:V->List V->Hp->VK->Prop:=fun x vs H Q => ∃ l xs i k y,x = .ref l/\vs=[.int i]/\H l=some (.lst xs) /\ -(2 ^ 63)<=i/\i < 2 ^ 63/\seqIndex? i xs.length=some k/\xs[k]? = some y/\Q y (upd H l (.lst (xs.eraseIdx k)))
theorem Fd:MtM X "list.pop" Xw:=by
 intro pins s σ H x vs v us Q I rx rv h
 obtain⟨l,xs,i,k,y,rfl,rfl,hH,h1,h2,hk,hy,q⟩:=h
 cases rx
 obtain⟨u,rfl,ru⟩:=rv.one
 obtain⟨t,rfl⟩:=ru
 obtain⟨z,its,n,r,hl,e⟩:=I.Iv hH
 obtain⟨w,hw,QX⟩:=r.get hy
 refine call_meets F.slot_list_pop ⟨_,e,rfl⟩ F.entry_list_pop (F.args_list_pop_2 _ _)
  (MeetsSeq.list_pop_at l its.toArray n i t k w (fitsIndex_both h1 h2) (by rw[zc,<-hl];exact hk) (by rw[<-Array.getElem?_toList];exact hw) (by rw[zc];lia)) ⟨e,?_⟩
 refine⟨y,_,I.Vh (its':=its.eraseIdx k) hH e ?_ (r.eraseIdx k) ?_,QX,q⟩
 ·show its.toArray.eraseIdxIfInBounds k=(its.eraseIdx k).toArray
  rw[List.eraseIdxIfInBounds_toArray]
 ·have:=Aq xs k
  lia
def qD0:R2:=fun x y H Q => ∃ l b xs zs,x = .ref l/\y = .ref b/\H l=some (.lst xs)/\H b=some (.lst zs)/\xs.length+zs.length<=sizeLine/\∀ p,H p=none->Q (.ref p) (upd H p (.lst (xs++zs)))
theorem kj:mQ X (binaryOp .Add) qD0:=by
 intro pins s σ H x y v u Q I rx ry h
 obtain⟨l,b,xs,zs,rfl,rfl,hH,hB,hz,q⟩:=h
 cases rx
 cases ry
 obtain⟨z,its,n,r,hl,e⟩:=I.Iv hH
 obtain⟨z2,its2,n2,r2,hl2,e2⟩:=I.Iv hB
 refine PySem.P.add_list e e2 ?_ (by rw[zc,zc];lia)
 have ea:its.toArray++its2.toArray=(its++its2).toArray:=by simp
 rw[ea]
 exact⟨.ref _,_,I.qDF (t':=s.toks) (r.append r2) (by rw[dJ];lia),rfl,q _ I.fresh⟩
end
section
variable{prog:Program}{w:World}{A:Around}{E:Value->Shared->Prop}{s:Shared}
end
section
variable{X:Cx}
end
end L2
namespace Att
open PySem PySem.W PySem.Calls PyProof.Rows
theorem vD{P:Params}{h:Heap}:∀(ns:List Int)(vs:List Value),WellAll P h vs (ns.map WData.int)->IntsAre vs ns:=by
 intro ns
 induction ns with
 | nil=>
  intro vs w
  rw[List.map_nil]at w
  cases w
  exact .nil
 | cons n ns ih=>
  intro vs w
  rw[List.map_cons]at w
  cases w with
  | cons a b=>
   cases a
   exact .cons _ _ (ih _ b)
theorem M8{l:OpenLaw}{n:Nat}(hn:l.most=some n){P:Params}{h:Heap}{args:List WData}{vals:List Value}
  (hpre:l.row.toRowW.claim.pre args=true) (hwl:WellAll P h vals args) :
  ∃ a vs ns,vals=[Value.ref a]/\args=[WData.list (ns.map WData.int)]/\h.get? a=some { cls:=.type "list",data:=.seq vs.toArray }/\IntsAre vs ns/\ns.length<=n:=by
 have hsh:WShape.hasAll [] args [.list .int]=true:=(pre_splitW hpre).1
 have hc:l.pre.holds [] { args:=args }=true:=(pre_splitW hpre).2
 obtain⟨d,r,rfl,h1,h2⟩:=hasAllW_cons hsh
 obtain rfl:=hasAllW_nil h2
 obtain⟨xs,rfl,h3⟩:=hasW_list h1
 obtain⟨ns,rfl⟩:=items_int h3
 have hlen:ns.length<=n:=by
  unfold OpenLaw.pre at hc
  have h4:(WTm.not (.lt (.lit (.int (n:Int))) (.len (.arg 0)))).holds [] { args:=[.list (ns.map .int)] }=true:=by
   have h4:=(holds_andW hc).1
   rw[hn]at h4
   exact h4
  have h5:=condW_of h4 (w_not (w_lt w_lit (w_len_list (w_arg rfl))))
  rw[cM]at h5
  refine Nat.le_of_not_lt fun q=>?_
  have q':(n:Int) < ((ns.length:Nat):Int):=by lia
  first
   | (rw[decide_eq_true q']at h5;exact absurd h5 (by decide))
   | (simp at h5;lia)
 cases hwl with
 | cons w1 w2=>
  cases w2
  cases w1 with
  | list ho hall=>exact⟨_,_,ns,rfl,rfl,ho,vD ns _ hall,hlen⟩
theorem MK(l:OpenLaw)(args:List WData):l.row.toRowW.claim.post args (.bool true) args=true:=
 postW_of (r:=l.row.toRowW) (X:=(true == true))
  (show WShape.has [] (.bool true) .bool=true by first | rfl | decide | simp [WShape.has,WShape.arms,WShape.armsAll])
  (show (WTm.eq .res (.lit (.bool true))).value [] { args:=args,res:=some (.bool true),after:=args }=some (.bool (true == true)) from w_eq_bool (w_res rfl) w_lit) rfl
theorem Gf{l:OpenLaw}{n:Nat}{q:Program}{loose:List Str}{XP:(Str->Option Value)->Heap->Prop}{YP:World->Heap->Prop}{d:DefRec}
  (hn:l.most=some n) (hdf:d.params.defaults=[])
  (call:∀(w:World)(s₀ s₁:Shared)(mg mb:Str->Option Value)(fa:Addr)(o:Obj)(pm cd doc:Value)(a:Addr)(vs:List Value)(ns:List Int),
   Ground q loose [] XP w s₀ mg mb s₁.heap->YP w s₁.heap →
   s₁.heap.get? fa=some o->o.data = .func (docDef d.name d.params d.body d.scope pm cd doc)->s₁.heap.CodeRec cd d.name->mg d.name=some (.ref fa) →
   s₁.heap.get? a=some { cls:=.type "list",data:=.seq vs.toArray }->IntsAre vs ns->ns.length<=n->s₁.gens = #[] →
   codeAny (model l.prog w) callerA (.call (.ref fa) ⟨[.ref a],[]⟩) (fun r s'=>r = .ok (.ret (.bool true))/\OldK s₁.heap s'.heap/\s'.os=s₁.os/\AllBare s'.gens) s₁) :
  WalkO q loose XP YP l.row.toRowW d [] (fun f vs=>PySem.call f vs):=by
 intro w s₀ s₁ mg mb G Y fa o pm cd doc dV kV ho hd hcd hD hmg hg args vals as hpre hlay hrd hwl hlo
 obtain rfl:dV = .none:=Dflts.none hD hdf
 obtain rfl:kV = .none:=Dflts.noKw hD
 obtain⟨a,vs,ns,rfl,rfl,hobj,hints,hlen⟩:=M8 hn hpre hwl
 refine enter_call (codeAny_mono (call w s₀ s₁ mg mb fa o pm cd doc a vs ns G Y ho (fd_plain hd) hcd hmg hobj hints hlen hg) fun r s' hq=>?_)
 obtain⟨rfl,h2,h3,h4⟩:=hq
 exact⟨.inl ⟨.bool true,.bool true,[],rfl,fun _=>rfl,.bool true,MK l _,fun _=>⟨List.Pairwise.nil,fun _ hm=>(nomatch hm)⟩⟩,h2,h3,h4⟩
section
variable{prog:Program}{w:World}{A:Around}{E:Value->Shared->Prop}{s:Shared}{K:Frag}
end
end Att
namespace L2
open PySem PySem.Spec PyProof.Rows
theorem lD:∀ {vs:List Value} {ns:List Int},IntsAre vs ns->Vals (ns.map V.int) vs
 | _,_,.nil=>.nil
 | _,_,.cons n t h=>.cons ⟨t,rfl⟩ (lD h)
def Only(H:Hp):Prop:=∀ b,H b=none ∨ ∃ o xs,H b=some (.Kw o (.lst xs))
theorem law_call{P:Program}{w:World}{K:PySem.W.Frag}{mg mb:Str->Option Value}{CX:Pq}{k:Nat}{fa a:Addr}{fd:FuncData}{x:Str}{sp:Sp}{s₁:Shared}{vs:List Value}{ns:List Int}
  (KX:K.In s₁.heap) (hns:s₁.heap.Ns mainGlobals mg) (hb:s₁.heap.Ns builtinsNs mb) (hbb:∀ x:Str,x ≠ "__name__" -> mb x=bootBuiltins x) (hlim:s₁.heap.NoLimit) (hg:s₁.gens = #[])
  (ha:s₁.heap.get? a=some { cls:=.type "list",data:=.seq vs.toArray }) (hi:IntsAre vs ns) (hl:ns.length<=sizeLine) (hr:iH k callerA)
  (F:∀ base:Heap,K.In base->base.Ns mainGlobals mg->aL P w K mg base CX k fa fd [x] sp) (hbind:∀(s:Shared)(u:Value),BindsTo s fd ⟨[u],[]⟩ [(x,u)])
  (hsp:∀ H:Hp,Only H->aX K H a (ns.map V.int)->sp [.ref a] H (fun v _=>v = .bl true) fun _ _ _=>False)
  (hCX:∀ H e s',CX [] H s₁ (fun _ _ _=>False) e s'->False) :
  codeAny (model P w) callerA (.call (.ref fa) ⟨[.ref a],[]⟩) (fun r s'=>r = .ok (.ret (.bool true))/\OldK s₁.heap s'.heap/\s'.os=s₁.os/\AllBare s'.gens) s₁:=by
 have rv:=lD hi
 have lenV:=hi.length
 -- from an abstract heap in which nothing but the script may be tracked
 have core:∀ H:Hp,Only H->aX K H a (ns.map V.int)->qW P w H s₁.heap->(∀ b,H b ≠ none->b=a)->(H a ≠ none->K.lookup a=none) →
   codeAny (model P w) callerA (.call (.ref fa) ⟨[.ref a],[]⟩) (fun r s'=>r = .ok (.ret (.bool true))/\OldK s₁.heap s'.heap/\s'.os=s₁.os/\AllBare s'.gens) s₁:=by
  intro H hO hS hok hA hK
  have Lh:∀ {b:Addr} {o:Obj},s₁.heap.get? b=some o->H b=none->(Cv s₁.heap H).get? b=some o:=fun e n=>SJ e n
  have noA:∀ {b:Addr} {o:Obj} {es:Array DictEntry} {ep:Nat},s₁.heap.get? b=some o->o.data = .dict es ep->H b=none:=fun {b o es ep} e d=>by
   cases q:H b with
   | none=>rfl
   | some u=>
    have e':b=a:=hA b (by rw[q];simp)
    subst e'
    rw[ha]at e;cases e
    have d':Data.seq vs.toArray _=Data.dict es ep:=d
    cases d'
  have nsK:∀ {b:Addr} {m:Str->Option Value},s₁.heap.Ns b m->(Cv s₁.heap H).Ns b m:=fun {b m} ⟨o,es,ep,e,d,r⟩=>⟨o,es,ep,Lh e (noA e d),d,r⟩
  have hKb:K.In (Cv s₁.heap H):=fun b o e=>Lh (KX b o e) (by
   cases q:H b with
   | none=>rfl
   | some u=>
    have e':b=a:=hA b (by rw[q];simp)
    subst e'
    rw[hK (by rw[q];simp)]at e;cases e)
  have hM:Mod K mg (Cv s₁.heap H):=⟨hKb,nsK hns,⟨mb,nsK hb,hbb⟩,let ⟨mc,h1,h2⟩:=hlim;⟨mc,nsK h1,h2⟩⟩
  have e0:Jm P w K mg (Cv s₁.heap H) callerA [] s₁ H:=⟨rfl,hM,fun b o e=>Vb e,Nat.le_of_eq (O3 _ _),trivial,fun b hb=>absurd (show b∈([]:List Addr) from hb) (by simp),hok,.of_eq hg⟩
  refine codeAny_mono ((F _ hKb (nsK hns)).run callerA [] s₁ H ⟨[.ref a],[]⟩ [.ref a] [.ref a] _ _ hr e0 (hbind s₁ (.ref a)) (.cons rfl .nil) (hsp H hO hS)) fun r s' h=>?_
  cases r with
  | error e=>exact (hCX H e s' h).elim
  | ok fl=>
   cases fl with
   | next=>exact False.elim h
   | brk=>exact False.elim h
   | cont=>exact False.elim h
   | ret u=>
    obtain⟨v,H',os,bare,un,hok',r',q⟩:=h
    have q':v = .bl true:=q
    subst q'
    obtain rfl:u=Value.bool true:=r'
    refine⟨rfl,OldK.of_keep fun b o e=>?_,os,bare⟩
    cases q:H b with
    | none=>exact un.keep b o e q (by intro z;exact absurd (show b∈([]:List Addr) from z) (by simp)) (by simp)
    | some u=>
     rcases hO b with z | ⟨ob,xs,z⟩
     ·rw[q]at z;cases z
     ·have z2:=un.yw b ob _ z
      obtain⟨e1,_⟩:=hok b _ z
      obtain⟨e2,_⟩:=hok' b _ z2
      rw[e]at e1;cases e1
      exact e2
 cases hk:K.lookup a with
 | some o=>
  -- the script is one of the module's own objects
  have e:=KX a o hk
  rw[ha]at e
  cases e
  refine core (fun _=>none) (fun _=>.inl rfl) (.inr ⟨_,vs.toArray,_,hk,rfl,rfl,rfl,by rw[List.size_toArray,lenV];exact hl,by simpa using rv⟩) (fun b u z=>by have z':(none:Option HO)=some u:=z;cases z') (fun b z=>absurd rfl z) fun z=>absurd rfl z
 | none=>
  refine core (fun b=>if b=a then some (.Kw { cls:=.type "list",data:=.seq vs.toArray } (.lst (ns.map V.int))) else none) (fun b=>?_) (.inl (.inr ⟨{ cls:=.type "list",data:=.seq vs.toArray },if_pos rfl⟩)) (fun b u z=>?_) (fun b z=>?_) fun _=>hk
  ·by_cases hb:b=a
   ·exact .inr ⟨_,_,if_pos hb⟩
   ·exact .inl (if_neg hb)
  ·by_cases hb:b=a
   ·have z':=(if_pos hb).symm.trans z
    cases z'
    subst hb
    exact⟨ha,by rw[cM];exact hl,vs,_,rv,ha⟩
   ·have z':=(if_neg hb).symm.trans z
    cases z'
  ·by_cases hb:b=a
   ·exact hb
   ·exact absurd (if_neg hb) z
theorem Uc{l:PySem.W.OpenLaw}{n k:Nat}{q:Program}{loose:List Str}{XP:(Str->Option Value)->Heap->Prop}{YP:World->Heap->Prop}{d:DefRec}{K:Params->PySem.W.Frag}{CX:World->Pq}{sp:World->Sp}{x:Str}
  (hn:l.most=some n) (hn2:n<=sizeLine) (hdf:d.params.defaults=[]) (hr:iH k callerA)
  (hY:∀(w:World)(h:Heap),YP w h->(K w.params).In h)
  (F:∀(w:World)(mg:Str->Option Value)(fa:Addr)(h:Heap),(K w.params).In h->h.Ns mainGlobals mg->mg d.name=some (.ref fa) →
   ∃ fd:FuncData,(∀(s:Shared)(u:Value),BindsTo s fd ⟨[u],[]⟩ [(x,u)]) ∧
    ∀ base:Heap,(K w.params).In base->base.Ns mainGlobals mg->aL l.prog w (K w.params) mg base (CX w) k fa fd [x] (sp w))
  (hsp:∀(w:World)(H:Hp)(a:Addr)(ns:List Int),ns.length<=n->Only H->aX (K w.params) H a (ns.map V.int)->sp w [.ref a] H (fun v _=>v = .bl true) fun _ _ _=>False)
  (hCX:∀(w:World)(H:Hp)(s:Shared)(e:Value)(s':Shared),CX w [] H s (fun _ _ _=>False) e s'->False) :
  PySem.W.WalkO q loose XP YP l.row.toRowW d [] (fun f vs=>PySem.call f vs):=by
 refine Att.Gf hn hdf fun w s₀ s₁ mg mb fa o pm cd doc a vs ns G Y ho hd hcd hmg hobj hints hlen hg=>?_
 have KX:=hY w _ Y
 obtain⟨fd,hb,hF⟩:=F w mg fa _ KX G.T.g hmg
 exact law_call KX G.T.g G.T.b G.T.builtins G.T.nolimit hg hobj hints (Nat.le_trans hlen hn2) hr hF hb (fun H hO hS=>hsp w H a ns hlen hO hS) fun H e s'=>hCX w H s₁ e s'
def inClass(s:Stmt)(j:Nat):Stmt:=match s with
 | .ClassDef _ _ _ body _ _ _ _ _ _ _=>body.getD j (.Pass ⟨0,0,0,0⟩)
 | _=>.Pass ⟨0,0,0,0⟩
def qR(s:Stmt):Arguments:=match s with
 | .FunctionDef _ a _ _ _ _ _ _ _ _=>a
 | _=>{ posonlyargs:=[],args:=[],vararg:=none,kwonlyargs:=[],kw_defaults:=[],kwarg:=none,defaults:=[] }
def jy(s:Stmt):List Stmt:=match s with
 | .FunctionDef _ _ b _ _ _ _ _ _ _=>b
 | _=>[]
def aG(s:Stmt):Scope:=match s with
 | .FunctionDef _ _ _ _ _ _ sc _ _ _=>sc
 | _=>{ kind:=.function,names:=[],isGenerator:=false,isCoroutine:=false }
abbrev aq:Pq:=fun _ _ _ _ _ _=>False
abbrev E0:XK:=fun _ _ _=>False
theorem yE{X:Cx}:Passes aq X E0:=fun _ _ _ _ _ _ _ h=>h.elim
structure cZ(K:PySem.W.Frag)(x qual:Str)(st:Stmt)(f:Addr)(fd:FuncData):Prop where
 ex:∃(oc:Value)(od:Option Addr)(kV doc pm:Value)(an:Option Addr)(cdv ct:Value)(osl:Array (Option Value)),
  fd=PySem.W.fnOf x qual (qR st) (jy st) (aG st) .none kV doc pm an cdv ct/\K.lookup f=some ⟨oc,od,.func fd,osl⟩/\PySem.W.codeIn K cdv qual=true
 kp:KI K f
section
variable{P:Program}{w:World}{K:PySem.W.Frag}{mg:Str->Option Value}{base:Heap}
theorem cZ.ok{x qual:Str}{st:Stmt}{f:Addr}{fd:FuncData}{N ps:List Str}{k:Nat}{sp:Sp}(F:cZ K x qual st f fd)(S:aN N ps (aG st))(len:∀ vs H Q E,sp vs H Q E->vs.length=ps.length)
  (hbody:∀(cdv:Value)(A:Around)(outer:List Env)(s:Shared)(H:Hp)(vs:List V)(Q:VK)(E:XK),iH k (A.deeper (envOfC qual (aG st) s.heap.objs.size f cdv))->sp vs H Q E →
   ∃ t,Gi (JL aq P w K mg base N qual (aG st) f cdv A outer s H E).nox (jy st) t/\t { nx:=fun _ H'=>Q .non H',rt:=Q } (start N vs) H):aL P w K mg base aq (k+1) f fd ps sp:=by
 obtain⟨oc,od,kV,doc,pm,an,cdv,ct,osl,rfl,lk,hcd⟩:=F.ex
 refine qC7 lk hcd S len fun A outer s H vs Q E hr hsp=>?_
 obtain⟨t,h,q⟩:=hbody cdv A outer s H vs Q E hr hsp
 exact⟨t,h.nox,q⟩
theorem cZ.binds{x qual:Str}{st:Stmt}{f:Addr}{fd:FuncData}{ps:List Str}(F:cZ K x qual st f fd)
  (h:∀(kV doc pm:Value)(an:Option Addr)(cdv ct:Value)(us:List Value),us.length=ps.length->bindArgs (PySem.W.fnOf x qual (qR st) (jy st) (aG st) .none kV doc pm an cdv ct) ⟨us,[]⟩=pure (ps.zip us)):Binds K fd ps []:=by
 obtain⟨oc,od,kV,doc,pm,an,cdv,ct,osl,rfl,lk,hcd⟩:=F.ex
 exact .all (h kV doc pm an cdv ct)
theorem aQ{x qual:Str}{st:Stmt}{f:Addr}{oc:Value}{od an:Option Addr}{osl:Array (Option Value)}{kV doc pm cdv ct:Value}(l:K.lookup f=some ⟨oc,od,.func (PySem.W.fnOf x qual (qR st) (jy st) (aG st) .none kV doc pm an cdv ct),osl⟩)
  (c:PySem.W.codeIn K cdv qual=true) (k:KI K f):cZ K x qual st f (PySem.W.fnOf x qual (qR st) (jy st) (aG st) .none kV doc pm an cdv ct):=⟨⟨oc,od,kV,doc,pm,an,cdv,ct,osl,rfl,l,c⟩,k⟩
end
theorem zV{n:Nat}(h:n<=1000):n < sizeLine:=Nat.lt_of_le_of_lt h (by decide)
section
variable{X:Cx}
theorem pv(i:Nat){x:Str}{pos:Pos}(hN:X.N[i]? = some x:=by rfl)(hv:Vis X.env.scope x:=by first | exact Or.inl rfl | exact Or.inr (Or.inl rfl) | exact Or.inr (Or.inr rfl))(hd:(x == ("__debug__" : Str))=false:=by decide)
  (hcd:(x == ("__classdict__" : Str))=false:=by decide):PE X (.Name x pos) (qAK i):=Y6 hN hv hd hcd
end
theorem xQ{A B:Prop}(h:B):if false=true then A else B:=by
 rw[if_neg mU]
 exact h
theorem J8{A B:Prop}(h:A):if true=true then A else B:=by
 rw[if_pos rfl]
 exact h
theorem oZ{c A B:Prop} [Decidable c] (h1:c->A) (h2:¬ c->B):if c then A else B:=by
 by_cases h:c
 ·rw[if_pos h]
  exact h1 h
 ·rw[if_neg h]
  exact h2 h
def aM(H H':Hp):Prop:=∀ b o,H b=some o->H' b=some o
theorem aM.refl(H:Hp):aM H H:=fun _ _ h=>h
theorem aM.trans{H H1 H2:Hp}(a:aM H H1)(b:aM H1 H2):aM H H2:=fun c o h=>b c o (a c o h)
theorem aM.free{H H':Hp}(e:aM H H'){l:Addr}(h:H' l=Option.none):H l=Option.none:=by
 cases q:H l with
 | none=>rfl
 | some o=>
  rw[e l o q]at h
  cases h
theorem aM.seq{K:PySem.W.Frag}{H H':Hp}{a:Addr}{xs:List V}(e:aM H H')(h:aX K H a xs):aX K H' a xs:=by
 rcases h with (h | ⟨o,h⟩) | h
 ·exact .inl (.inl (e _ _ h))
 ·exact .inl (.inr ⟨o,e _ _ h⟩)
 ·exact .inr h
end L2
set_option maxHeartbeats 4000000
namespace L2
theorem aK{T:Prop}(h:∀ G:Prop,(T->G)->G):T:=h T id
theorem aD{K:PySem.W.Frag}{H:Hp}{p:PySem.Addr}{xs:List V}{i:Int}{v:V}{Z:V->Prop}(h1:aH K H p xs)(h2:oR xs i=some v)(h3:Z v):∃ p' xs' i' v',V.ref p = .ref p'/\V.int i = .int i'/\aH K H p' xs'/\oR xs' i'=some v'/\Z v':=⟨p,xs,i,v,rfl,rfl,h1,h2,h3⟩
theorem cz{K:PySem.W.Frag}{H:Hp}{p:PySem.Addr}{xs:List V}{i:Int}{v:V}{Z:V->Prop}(h1:aX K H p xs)(h2:oR xs i=some v)(h3:Z v):∃ p' xs' i' v',V.ref p = .ref p'/\V.int i = .int i'/\aX K H p' xs'/\oR xs' i'=some v'/\Z v':=⟨p,xs,i,v,rfl,rfl,h1,h2,h3⟩
theorem fW{p:PySem.Addr}{xs:List V}{E:PySem.Addr->Prop}{D:PySem.Addr->List V->Prop}{Z:PySem.Addr->List V->Prop}(e:E p)(d:D p xs)(z:Z p xs):∃ p' xs',E p'/\D p' xs'/\Z p' xs':=⟨p,xs,e,d,z⟩
theorem bF{i j:Int}{P:Int->Int->Prop}(h:P i j):∃ i' j',V.int i = .int i'/\V.int j = .int j'/\P i' j':=⟨i,j,rfl,rfl,h⟩
end L2
namespace mR
open PySem L2
def top(i:Nat):Stmt:=PySem.Challenge.pw_nesthall_k28_a_plain_runner.main.body.getD i (.Pass ⟨0,0,0,0⟩)
abbrev vQ:Stmt:=top 1
abbrev Bw:Stmt:=top 2
abbrev Ei:Stmt:=top 3
abbrev vR:Stmt:=top 4
abbrev qG:Stmt:=top 5
abbrev wW:Stmt:=top 7
abbrev K7:Stmt:=top 8
abbrev sIn:Stmt:=top 9
abbrev QW:Stmt:=top 10
abbrev sE:Stmt:=top 14
abbrev qF:Stmt:=top 15
abbrev KC:Stmt:=top 16
abbrev pK:Stmt:=top 18
abbrev sG:Stmt:=top 20
abbrev lN:Stmt:=top 21
abbrev rz:Stmt:=top 22
abbrev rZ:Stmt:=top 23
abbrev wV:Stmt:=top 25
abbrev vV:Stmt:=top 26
abbrev rY:Stmt:=top 27
abbrev jR:Stmt:=top 29
abbrev jQ:Stmt:=top 30
abbrev iU:Stmt:=top 31
abbrev qC:Stmt:=top 32
abbrev pI:Stmt:=top 33
abbrev gJ:Stmt:=top 34
abbrev Bs:Stmt:=top 35
abbrev pH:Stmt:=top 37
abbrev vP:Stmt:=top 38
abbrev KD:Stmt:=top 40
abbrev Bv:Stmt:=top 41
abbrev rP:Stmt:=top 42
abbrev rT:Stmt:=top 43
abbrev qD:Stmt:=top 44
abbrev jK:Stmt:=top 45
abbrev nA:Stmt:=top 46
abbrev Bu:Stmt:=top 47
abbrev lK:Stmt:=top 48
abbrev lM:Stmt:=top 49
abbrev gf:Stmt:=top 50
abbrev lH:Stmt:=top 51
abbrev Ac:Stmt:=top 52
abbrev jJ:Stmt:=top 53
abbrev K8:Stmt:=top 54
abbrev nC:Stmt:=top 55
abbrev fU:Stmt:=top 56
abbrev lJ:Stmt:=top 57
abbrev rQ:Stmt:=top 58
abbrev vU:Stmt:=top 59
abbrev n6:Stmt:=top 60
abbrev rR:Stmt:=top 61
abbrev uF:Stmt:=top 62
abbrev pJ:Stmt:=top 63
abbrev rO:Stmt:=top 64
abbrev ug:Stmt:=top 65
abbrev K9:Stmt:=inClass (top 12) 0
abbrev Uq:Stmt:=inClass (top 12) 1
abbrev Bt:Stmt:=inClass (top 12) 2
abbrev rW:Stmt:=inClass (top 12) 3
abbrev qB4:Str := "_law_near"
end mR
namespace Ru
open PySem L2 mR
def fnD(x q:Str)(st:Stmt)(pm cd:Value):FuncData:=PySem.W.fnOf x q (qR st) (jy st) (aG st) .none .none .none pm none cd .none
def fL(d:FuncData):Obj:=⟨.type "function",none,.func d,#[]⟩
def w0:Value:=.str "law_nesthall_k28_a_plain_runner" 524
def w1:Value:=.str "nesthall.guards" 362
def w2:Value:=.str "nesthall.doors" 374
def w3:Value:=.str "nesthall.nesting" 187
def w4:Value:=.str "nesthall.goings" 234
def w5:Value:=.str "nesthall.stands" 413
def w6:Value:=.str "nesthall.deeds" 325
def w7:Value:=.str "nesthall.passing" 443
def w8:Value:=.str "nesthall.runs" 505
def iG(x:Str)(st:Stmt)(p:Value)(c:Nat):FuncData:=fnD x x st p (.ref c)
def cd(x q:Str)(t1 t2 t3:Nat)(l n:Int)(r r2:Nat)(b1 b2 b3:Value)(u:Int)(t4:Nat):Obj:=⟨.type "code",none,.fields #[.str x t1,.str q t2,.str "/claim/cut.py" t3,.int l 0,.int n 0,.int 0 0,.int 0 0,.int 3 0,.ref r,.bool true,.int 181 0,.ref r2,.none,b1,b2,b3,.int u 0,.int l 0,.str "/claim/cut.py" t4],#[]⟩
def fd1:=iG "_law_cell_at" KD w0 241
def fd2:=iG "_law_mixed" Bv w0 248
def fd3:=iG "holds" pK w1 140
def fd4:=iG "answers" sG w2 147
def fd5:=iG "end_of" Bw w3 27
def fd6:=iG "parent" vQ w3 20
def fd7:=iG "lies_in" vR w3 39
def fd8:=iG "hall_over" qG w3 46
def fd9:=iG "kids" Ei w3 32
def qA3:=iG "bears_goal" wW w4 51
def qA2:=iG "next_in" K7 w4 58
def qA1:=iG "goings_in" sIn w4 65
def qA0:=iG "goings_out" QW w4 70
def Zz:=iG "plain_ones" wV w5 169
def Zy:=iG "kept_of" vV w5 176
def Zx:=iG "keeping" rY w5 183
def Zw:=iG "is_outdone" lN w2 152
def Zu:=iG "chosen" rz w2 157
def Zt:=iG "changed" sE w6 119
def Zr:=iG "recorded" qF w6 126
def Zq:=iG "done" KC w6 133
def Zo:=iG "sizes_of" jR w7 188
def Zn:=iG "rooms_left" gJ w7 215
def Zm:=iG "steps_in" jQ w7 193
def Zk:=iG "steps_out" iU w7 198
def Zj:=iG "stepped" qC w7 205
def Zi:=iG "goals_of" rZ w2 164
def Zh:=iG "passed" pI w7 210
def Zg:=iG "turn" Bs w7 222
def Zf:=iG "rested" pH w8 227
def Ze:=iG "after" vP w8 234
def Zd:=iG "_law_name" rP w0 255
def Zc:=iG "_law_deed" rT w0 262
def Za:=iG "_law_deeds" qD w0 269
def ZZ:=iG "_law_guard" jK w0 276
def ZX:=iG "_law_depths" nA w0 283
def ZW:=iG "_law_rooms" Bu w0 290
def ZV:=iG "_law_doors" lK w0 295
def ZS:=iG "_law_chart" lM w0 300
def ZR:=iG "_law_holds" jJ w0 326
def ZQ:=iG "_law_lies" K8 w0 333
def ZP:=iG "_law_answer" nC w0 340
def ZM:=iG "_law_chosen" fU w0 345
def ZL:=iG "_law_kids" lJ w0 350
def ZK:=iG "_law_hall" rQ w0 357
def ZJ:=iG "_law_bears" vU w0 364
def ZG:=iG "_law_ins" n6 w0 369
def ZF:=iG "_law_same" Ac w0 319
def ZD:=iG "_law_does" rR w0 376
def ZC:=iG "_law_opened" gf w0 307
def Z9:=iG "_law_stand" lH w0 312
def Z8:=iG "_law_kept" uF w0 381
def Z7:=iG "_law_pass" pJ w0 386
def Z6:=iG "_law_run" rO w0 391
def Ss:=iG "law" ug w0 398
def Z5:FuncData:=fnD "__init__" "Letters.__init__" K9 (.str "nesthall.letters" 271) (.ref 84)
def Z4:FuncData:=fnD "add" "Letters.add" Uq (.str "nesthall.letters" 271) (.ref 91)
def Z3:FuncData:=fnD "taken" "Letters.taken" Bt (.str "nesthall.letters" 271) (.ref 98)
def Z2:FuncData:=fnD "waiting" "Letters.waiting" rW (.str "nesthall.letters" 271) (.ref 105)
abbrev ke(P:Params)(x:Str)(t:Nat)(v:Value):=(⟨PyData.keyHash P x,.str x t,v⟩:DictEntry)
def KO(P:Params):PySem.W.Frag:=[
 (3,⟨.type "dict",none,.dict #[ke P "__name__" 165 (.str "law_nesthall_k28_a_plain_runner" 524),ke P "__doc__" 166 .none,ke P "__package__" 167 .none,ke P "__loader__" 168 (.builtin "__main__.__loader__#opaque"),ke P "__spec__" 169 .none,ke P "__annotations__" 170 (.ref 6),ke P "__builtins__" 171 (.ref 4),ke P "__file__" 173 (.str "/claim/cut.py" 172),ke P "__cached__" 174 .none,ke P "parent" 198 (.ref 21),ke P "end_of" 208 (.ref 28),ke P "kids" 214 (.ref 33),ke P "lies_in" 223 (.ref 40),ke P "hall_over" 233 (.ref 47),ke P "bears_goal" 241 (.ref 52),ke P "next_in" 252 (.ref 59),ke P "goings_in" 264 (.ref 66),ke P "goings_out" 270 (.ref 71),ke P "Letters" 324 (.ref 109),ke P "changed" 338 (.ref 120),ke P "recorded" 348 (.ref 127),ke P "done" 361 (.ref 134),ke P "holds" 373 (.ref 141),ke P "answers" 389 (.ref 148),ke P "is_outdone" 395 (.ref 153),ke P "chosen" 401 (.ref 158),ke P "goals_of" 412 (.ref 165),ke P "plain_ones" 420 (.ref 170),ke P "kept_of" 430 (.ref 177),ke P "keeping" 442 (.ref 184),ke P "sizes_of" 450 (.ref 189),ke P "steps_in" 456 (.ref 194),ke P "steps_out" 462 (.ref 199),ke P "stepped" 477 (.ref 206),ke P "passed" 483 (.ref 211),ke P "rooms_left" 489 (.ref 216),ke P "turn" 504 (.ref 223),ke P "rested" 512 (.ref 228),ke P "after" 523 (.ref 235),ke P "_law_cell_at" 533 (.ref 242),ke P "_law_mixed" 544 (.ref 249),ke P "_law_name" 554 (.ref 256),ke P "_law_deed" 566 (.ref 263),ke P "_law_deeds" 581 (.ref 270),ke P "_law_guard" 593 (.ref 277),ke P "_law_depths" 603 (.ref 284),ke P "_law_rooms" 621 (.ref 291),ke P "_law_doors" 627 (.ref 296),ke P "_law_chart" 633 (.ref 301),ke P "_law_opened" 647 (.ref 308),ke P "_law_stand" 653 (.ref 313),ke P "_law_same" 662 (.ref 320),ke P "_law_holds" 673 (.ref 327),ke P "_law_lies" 683 (.ref 334),ke P "_law_answer" 695 (.ref 341),ke P "_law_chosen" 701 (.ref 346),ke P "_law_kids" 707 (.ref 351),ke P "_law_hall" 718 (.ref 358),ke P "_law_bears" 728 (.ref 365),ke P "_law_ins" 734 (.ref 370),ke P "_law_does" 748 (.ref 377),ke P "_law_kept" 754 (.ref 382),ke P "_law_pass" 760 (.ref 387),ke P "_law_run" 766 (.ref 392),ke P "law" 780 (.ref 399)] 65,#[]⟩),
 (241,cd "_law_cell_at" "_law_cell_at" 526 527 528 214 2 236 237 (.ref 238) (.ref 239) (.ref 240) 531 532),
 (242,fL fd1),
 (248,cd "_law_mixed" "_law_mixed" 534 535 536 218 3 243 244 (.ref 245) (.ref 246) (.ref 247) 542 543),
 (249,fL fd2),
 (140,cd "holds" "holds" 364 365 366 96 3 135 136 (.ref 137) (.ref 138) (.ref 139) 371 372),
 (141,fL fd3),
 (147,cd "answers" "answers" 376 377 378 112 3 142 143 (.ref 144) (.ref 145) (.ref 146) 387 388),
 (148,fL fd4),
 (27,cd "end_of" "end_of" 199 200 201 8 2 22 23 (.ref 24) (.ref 25) (.ref 26) 206 207),
 (28,fL fd5),
 (20,cd "parent" "parent" 189 190 191 2 2 15 16 (.ref 17) (.ref 18) (.ref 19) 196 197),
 (21,fL fd6),
 (39,cd "lies_in" "lies_in" 215 216 217 17 3 34 35 (.ref 36) (.ref 37) (.ref 38) 221 222),
 (40,fL fd7),
 (46,cd "hall_over" "hall_over" 224 225 226 19 3 41 42 (.ref 43) (.ref 44) (.ref 45) 231 232),
 (47,fL fd8),
 (32,cd "kids" "kids" 209 210 211 14 2 29 30 .none .none (.ref 31) 212 213),
 (33,fL fd9),
 (51,cd "bears_goal" "bears_goal" 236 237 238 27 3 48 49 .none .none (.ref 50) 239 240),
 (52,fL qA3),
 (58,cd "next_in" "next_in" 242 243 244 30 3 53 54 (.ref 55) (.ref 56) (.ref 57) 250 251),
 (59,fL qA2),
 (65,cd "goings_in" "goings_in" 253 254 255 38 3 60 61 (.ref 62) (.ref 63) (.ref 64) 262 263),
 (66,fL qA1),
 (70,cd "goings_out" "goings_out" 265 266 267 46 3 67 68 .none .none (.ref 69) 268 269),
 (71,fL qA0),
 (169,cd "plain_ones" "plain_ones" 415 416 417 138 2 166 167 .none .none (.ref 168) 418 419),
 (170,fL Zz),
 (176,cd "kept_of" "kept_of" 421 422 423 140 3 171 172 (.ref 173) (.ref 174) (.ref 175) 428 429),
 (177,fL Zy),
 (183,cd "keeping" "keeping" 431 432 433 145 4 178 179 (.ref 180) (.ref 181) (.ref 182) 440 441),
 (184,fL Zx),
 (152,cd "is_outdone" "is_outdone" 390 391 392 120 3 149 150 .none .none (.ref 151) 393 394),
 (153,fL Zw),
 (157,cd "chosen" "chosen" 396 397 398 125 3 154 155 .none .none (.ref 156) 399 400),
 (158,fL Zu),
 (119,cd "changed" "changed" 327 328 329 72 3 114 115 (.ref 116) (.ref 117) (.ref 118) 336 337),
 (120,fL Zt),
 (126,cd "recorded" "recorded" 339 340 341 81 3 121 122 (.ref 123) (.ref 124) (.ref 125) 346 347),
 (127,fL Zr),
 (133,cd "done" "done" 349 350 351 88 4 128 129 (.ref 130) (.ref 131) (.ref 132) 359 360),
 (134,fL Zq),
 (188,cd "sizes_of" "sizes_of" 445 446 447 152 1 185 186 .none .none (.ref 187) 448 449),
 (189,fL Zo),
 (215,cd "rooms_left" "rooms_left" 484 485 486 184 1 212 213 .none .none (.ref 214) 487 488),
 (216,fL Zn),
 (193,cd "steps_in" "steps_in" 451 452 453 154 2 190 191 .none .none (.ref 192) 454 455),
 (194,fL Zm),
 (198,cd "steps_out" "steps_out" 457 458 459 156 2 195 196 .none .none (.ref 197) 460 461),
 (199,fL Zk),
 (205,cd "stepped" "stepped" 463 464 465 158 4 200 201 (.ref 202) (.ref 203) (.ref 204) 475 476),
 (206,fL Zj),
 (164,cd "goals_of" "goals_of" 402 403 404 129 3 159 160 (.ref 161) (.ref 162) (.ref 163) 410 411),
 (165,fL Zi),
 (210,cd "passed" "passed" 478 479 480 167 4 207 208 .none .none (.ref 209) 481 482),
 (211,fL Zh),
 (222,cd "turn" "turn" 490 491 492 186 4 217 218 (.ref 219) (.ref 220) (.ref 221) 502 503),
 (223,fL Zg),
 (227,cd "rested" "rested" 507 508 509 198 4 224 225 .none .none (.ref 226) 510 511),
 (228,fL Zf),
 (234,cd "after" "after" 513 514 515 209 3 229 230 (.ref 231) (.ref 232) (.ref 233) 521 522),
 (235,fL Ze),
 (255,cd "_law_name" "_law_name" 545 546 547 223 2 250 251 (.ref 252) (.ref 253) (.ref 254) 552 553),
 (256,fL Zd),
 (262,cd "_law_deed" "_law_deed" 555 556 557 227 3 257 258 (.ref 259) (.ref 260) (.ref 261) 564 565),
 (263,fL Zc),
 (269,cd "_law_deeds" "_law_deeds" 567 568 569 242 5 264 265 (.ref 266) (.ref 267) (.ref 268) 579 580),
 (270,fL Za),
 (276,cd "_law_guard" "_law_guard" 582 583 584 249 4 271 272 (.ref 273) (.ref 274) (.ref 275) 591 592),
 (277,fL ZZ),
 (283,cd "_law_depths" "_law_depths" 594 595 596 265 2 278 279 (.ref 280) (.ref 281) (.ref 282) 601 602),
 (284,fL ZX),
 (290,cd "_law_rooms" "_law_rooms" 604 605 606 270 4 285 286 (.ref 287) (.ref 288) (.ref 289) 619 620),
 (291,fL ZW),
 (295,cd "_law_doors" "_law_doors" 622 623 624 288 5 292 293 .none .none (.ref 294) 625 626),
 (296,fL ZV),
 (300,cd "_law_chart" "_law_chart" 628 629 630 310 1 297 298 .none .none (.ref 299) 631 632),
 (301,fL ZS),
 (326,cd "_law_holds" "_law_holds" 663 664 665 376 3 321 322 (.ref 323) (.ref 324) (.ref 325) 671 672),
 (327,fL ZR),
 (333,cd "_law_lies" "_law_lies" 674 675 676 392 3 328 329 (.ref 330) (.ref 331) (.ref 332) 681 682),
 (334,fL ZQ),
 (340,cd "_law_answer" "_law_answer" 684 685 686 399 4 335 336 (.ref 337) (.ref 338) (.ref 339) 693 694),
 (341,fL ZP),
 (345,cd "_law_chosen" "_law_chosen" 696 697 698 407 3 342 343 .none .none (.ref 344) 699 700),
 (346,fL ZM),
 (350,cd "_law_kids" "_law_kids" 702 703 704 418 2 347 348 .none .none (.ref 349) 705 706),
 (351,fL ZL),
 (357,cd "_law_hall" "_law_hall" 708 709 710 421 3 352 353 (.ref 354) (.ref 355) (.ref 356) 716 717),
 (358,fL ZK),
 (364,cd "_law_bears" "_law_bears" 719 720 721 427 3 359 360 (.ref 361) (.ref 362) (.ref 363) 726 727),
 (365,fL ZJ),
 (369,cd "_law_ins" "_law_ins" 729 730 731 432 3 366 367 .none .none (.ref 368) 732 733),
 (370,fL ZG),
 (319,cd "_law_same" "_law_same" 654 655 656 361 2 314 315 (.ref 316) (.ref 317) (.ref 318) 660 661),
 (320,fL ZF),
 (376,cd "_law_does" "_law_does" 735 736 737 442 6 371 372 (.ref 373) (.ref 374) (.ref 375) 746 747),
 (377,fL ZD),
 (307,cd "_law_opened" "_law_opened" 634 635 636 330 4 302 303 (.ref 304) (.ref 305) (.ref 306) 645 646),
 (308,fL ZC),
 (312,cd "_law_stand" "_law_stand" 648 649 650 345 3 309 310 .none .none (.ref 311) 651 652),
 (313,fL Z9),
 (381,cd "_law_kept" "_law_kept" 749 750 751 458 3 378 379 .none .none (.ref 380) 752 753),
 (382,fL Z8),
 (386,cd "_law_pass" "_law_pass" 755 756 757 468 5 383 384 .none .none (.ref 385) 758 759),
 (387,fL Z7),
 (391,cd "_law_run" "_law_run" 761 762 763 498 3 388 389 .none .none (.ref 390) 764 765),
 (392,fL Z6),
 (398,cd "law" "law" 767 768 769 517 1 393 394 (.ref 395) (.ref 396) (.ref 397) 778 779),
 (399,fL Ss),
 (109,⟨.type "type",none,.cls ⟨"Letters",[.type "object"],[.ref 109,.type "object"],108,"Letters",true,[],[],false,none,false⟩,#[none,none,some (.str "Letters" 273),some (.str "Letters" 281),some (.builtin "object.__new__"),some (.bool true)]⟩),
 (108,⟨.type "dict",none,.dict #[ke P "__module__" 280 (.str "nesthall.letters" 271),ke P "__firstlineno__" 284 (.int (52) 283),ke P "__init__" 292 (.ref 85),ke P "add" 300 (.ref 92),ke P "taken" 307 (.ref 99),ke P "waiting" 314 (.ref 106),ke P "__static_attributes__" 317 (.ref 107),ke P "__dict__" 319 (.ref 110),ke P "__weakref__" 321 (.ref 111),ke P "__doc__" 322 .none] 4,#[]⟩),
 (84,cd "__init__" "Letters.__init__" 285 286 287 54 2 79 80 (.ref 81) (.ref 82) (.ref 83) 290 291),
 (85,fL Z5),
 (91,cd "add" "Letters.add" 293 294 295 58 2 86 87 (.ref 88) (.ref 89) (.ref 90) 298 299),
 (92,fL Z4),
 (98,cd "taken" "Letters.taken" 301 302 303 64 1 93 94 (.ref 95) (.ref 96) (.ref 97) 305 306),
 (99,fL Z3),
 (105,cd "waiting" "Letters.waiting" 308 309 310 69 1 100 101 (.ref 102) (.ref 103) (.ref 104) 312 313),
 (106,fL Z2)]
def KA:List Addr:=[3,241,242,248,249,140,141,147,148,27,28,20,21,39,40,46,47,32,33,51,52,58,59,65,66,70,71,169,170,176,177,183,184,152,153,157,158,119,120,126,127,133,134,188,189,215,216,193,194,198,199,205,206,164,165,210,211,222,223,227,228,234,235,255,256,262,263,269,270,276,277,283,284,290,291,295,296,300,301,326,327,333,334,340,341,345,346,350,351,357,358,364,365,369,370,319,320,376,377,307,308,312,313,381,382,386,387,391,392,398,399,109,108,84,85,91,92,98,99,105,106]
def PW:Program:=PySem.Challenge.pw_nesthall_k28_a_plain_runner
abbrev nI(P:Params)(x:Str)(a:Addr):Prop:=PySem.W.nsIn (KO P) mainGlobals x=some (some (.ref a))
abbrev lk(P:Params)(a:Addr)(d:FuncData):Prop:=(KO P).lookup a=some (fL d)
abbrev FU(P:Params)(x:Str)(s:Stmt)(a:Addr)(d:FuncData):Prop:=cZ (KO P) x x s a d
def QV:Program:=PySem.W.view PW [65]
def LS:List Str:=[Str.ofString "__name__",Str.ofString "parent",Str.ofString "end_of",Str.ofString "kids",Str.ofString "lies_in",Str.ofString "hall_over",Str.ofString "bears_goal",Str.ofString "next_in",Str.ofString "goings_in",Str.ofString "goings_out",Str.ofString "Letters",Str.ofString "changed",Str.ofString "recorded",Str.ofString "done",Str.ofString "holds",Str.ofString "answers",Str.ofString "is_outdone",Str.ofString "chosen",Str.ofString "goals_of",Str.ofString "plain_ones",Str.ofString "kept_of",Str.ofString "keeping",Str.ofString "sizes_of",Str.ofString "steps_in",Str.ofString "steps_out",Str.ofString "stepped",Str.ofString "passed",Str.ofString "rooms_left",Str.ofString "turn",Str.ofString "rested",Str.ofString "after",Str.ofString "_law_cell_at",Str.ofString "_law_mixed",Str.ofString "_law_name",Str.ofString "_law_deed",Str.ofString "_law_deeds",Str.ofString "_law_guard",Str.ofString "_law_depths",Str.ofString "_law_rooms",Str.ofString "_law_doors",Str.ofString "_law_chart",Str.ofString "_law_opened",Str.ofString "_law_stand",Str.ofString "_law_same",Str.ofString "_law_holds",Str.ofString "_law_lies",Str.ofString "_law_answer",Str.ofString "_law_chosen",Str.ofString "_law_kids",Str.ofString "_law_hall",Str.ofString "_law_bears",Str.ofString "_law_ins",Str.ofString "_law_does",Str.ofString "_law_kept",Str.ofString "_law_pass",Str.ofString "_law_run"]
def HK:PySem.W.Hook:=PySem.W.kHook KO KA fun _=>by kernel_rfl
def qA6:Stmt->Pos
 | .FunctionDef _ _ _ _ _ _ _ _ _ p=>p
 | _=>⟨0,0,0,0⟩
def JK:DefRec:=⟨"law",qR ug,jy ug,aG ug,qA6 ug⟩
set_option maxHeartbeats 0 in
theorem left:PySem.W.LeftO PW QV LS (fun s=>PySem.W.xlAt QV [] s && PySem.W.recOk [] s) HK.obs HK.val 5320:=fun w=>by kernel_rfl
theorem hdef:PySem.W.defOf QV "law" = some (JK,[]):=by kernel_rfl
theorem hok:(PySem.W.chainsOk QV && PySem.W.opensWell PW && (PySem.W.frees PySem.Challenge.rw_nesthall_k28_a_plain_runner.row.toRowW && PySem.Challenge.rw_nesthall_k28_a_plain_runner.row.within.isEmpty))=true:=by kernel_rfl
theorem hbare:PW.bare:=⟨rfl,rfl,rfl,rfl,rfl,by decide +kernel⟩
theorem hkw:PySem.W.kwWritten? JK.params.kwonlyargs JK.params.kw_defaults=some []:=by kernel_rfl
theorem hthe:PW.theDef "law" = some (JK.params,JK.body,JK.scope):=by kernel_rfl
theorem a1(P:Params):nI P "_law_cell_at" 242:=by kernel_rfl
theorem u1(P:Params):FU P "_law_cell_at" KD 242 fd1:=aQ (show lk P 242 fd1 by kernel_rfl) (by kernel_rfl) (by kernel_rfl)
theorem a2(P:Params):nI P "_law_mixed" 249:=by kernel_rfl
theorem u2(P:Params):FU P "_law_mixed" Bv 249 fd2:=aQ (show lk P 249 fd2 by kernel_rfl) (by kernel_rfl) (by kernel_rfl)
theorem a3(P:Params):nI P "holds" 141:=by kernel_rfl
theorem u3(P:Params):FU P "holds" pK 141 fd3:=aQ (show lk P 141 fd3 by kernel_rfl) (by kernel_rfl) (by kernel_rfl)
theorem a4(P:Params):nI P "answers" 148:=by kernel_rfl
theorem u4(P:Params):FU P "answers" sG 148 fd4:=aQ (show lk P 148 fd4 by kernel_rfl) (by kernel_rfl) (by kernel_rfl)
theorem a5(P:Params):nI P "end_of" 28:=by kernel_rfl
theorem u5(P:Params):FU P "end_of" Bw 28 fd5:=aQ (show lk P 28 fd5 by kernel_rfl) (by kernel_rfl) (by kernel_rfl)
theorem a6(P:Params):nI P "parent" 21:=by kernel_rfl
theorem u6(P:Params):FU P "parent" vQ 21 fd6:=aQ (show lk P 21 fd6 by kernel_rfl) (by kernel_rfl) (by kernel_rfl)
theorem a7(P:Params):nI P "lies_in" 40:=by kernel_rfl
theorem u7(P:Params):FU P "lies_in" vR 40 fd7:=aQ (show lk P 40 fd7 by kernel_rfl) (by kernel_rfl) (by kernel_rfl)
theorem a8(P:Params):nI P "hall_over" 47:=by kernel_rfl
theorem u8(P:Params):FU P "hall_over" qG 47 fd8:=aQ (show lk P 47 fd8 by kernel_rfl) (by kernel_rfl) (by kernel_rfl)
theorem a9(P:Params):nI P "kids" 33:=by kernel_rfl
theorem u9(P:Params):FU P "kids" Ei 33 fd9:=aQ (show lk P 33 fd9 by kernel_rfl) (by kernel_rfl) (by kernel_rfl)
theorem a10(P:Params):nI P "bears_goal" 52:=by kernel_rfl
theorem Bj(P:Params):FU P "bears_goal" wW 52 qA3:=aQ (show lk P 52 qA3 by kernel_rfl) (by kernel_rfl) (by kernel_rfl)
theorem a11(P:Params):nI P "next_in" 59:=by kernel_rfl
theorem Ly(P:Params):FU P "next_in" K7 59 qA2:=aQ (show lk P 59 qA2 by kernel_rfl) (by kernel_rfl) (by kernel_rfl)
theorem a12(P:Params):nI P "goings_in" 66:=by kernel_rfl
theorem Q3(P:Params):FU P "goings_in" sIn 66 qA1:=aQ (show lk P 66 qA1 by kernel_rfl) (by kernel_rfl) (by kernel_rfl)
theorem a13(P:Params):nI P "goings_out" 71:=by kernel_rfl
theorem Q0(P:Params):FU P "goings_out" QW 71 qA0:=aQ (show lk P 71 qA0 by kernel_rfl) (by kernel_rfl) (by kernel_rfl)
theorem a14(P:Params):nI P "plain_ones" 170:=by kernel_rfl
theorem u14(P:Params):FU P "plain_ones" wV 170 Zz:=aQ (show lk P 170 Zz by kernel_rfl) (by kernel_rfl) (by kernel_rfl)
theorem a15(P:Params):nI P "kept_of" 177:=by kernel_rfl
theorem u15(P:Params):FU P "kept_of" vV 177 Zy:=aQ (show lk P 177 Zy by kernel_rfl) (by kernel_rfl) (by kernel_rfl)
theorem a16(P:Params):nI P "keeping" 184:=by kernel_rfl
theorem u16(P:Params):FU P "keeping" rY 184 Zx:=aQ (show lk P 184 Zx by kernel_rfl) (by kernel_rfl) (by kernel_rfl)
theorem a17(P:Params):nI P "is_outdone" 153:=by kernel_rfl
theorem u17(P:Params):FU P "is_outdone" lN 153 Zw:=aQ (show lk P 153 Zw by kernel_rfl) (by kernel_rfl) (by kernel_rfl)
theorem a18(P:Params):nI P "chosen" 158:=by kernel_rfl
theorem u18(P:Params):FU P "chosen" rz 158 Zu:=aQ (show lk P 158 Zu by kernel_rfl) (by kernel_rfl) (by kernel_rfl)
theorem a19(P:Params):nI P "changed" 120:=by kernel_rfl
theorem u19(P:Params):FU P "changed" sE 120 Zt:=aQ (show lk P 120 Zt by kernel_rfl) (by kernel_rfl) (by kernel_rfl)
theorem a20(P:Params):nI P "recorded" 127:=by kernel_rfl
theorem u20(P:Params):FU P "recorded" qF 127 Zr:=aQ (show lk P 127 Zr by kernel_rfl) (by kernel_rfl) (by kernel_rfl)
theorem a21(P:Params):nI P "done" 134:=by kernel_rfl
theorem u21(P:Params):FU P "done" KC 134 Zq:=aQ (show lk P 134 Zq by kernel_rfl) (by kernel_rfl) (by kernel_rfl)
theorem a22(P:Params):nI P "sizes_of" 189:=by kernel_rfl
theorem u22(P:Params):FU P "sizes_of" jR 189 Zo:=aQ (show lk P 189 Zo by kernel_rfl) (by kernel_rfl) (by kernel_rfl)
theorem a23(P:Params):nI P "rooms_left" 216:=by kernel_rfl
theorem u23(P:Params):FU P "rooms_left" gJ 216 Zn:=aQ (show lk P 216 Zn by kernel_rfl) (by kernel_rfl) (by kernel_rfl)
theorem a24(P:Params):nI P "steps_in" 194:=by kernel_rfl
theorem u24(P:Params):FU P "steps_in" jQ 194 Zm:=aQ (show lk P 194 Zm by kernel_rfl) (by kernel_rfl) (by kernel_rfl)
theorem a25(P:Params):nI P "steps_out" 199:=by kernel_rfl
theorem u25(P:Params):FU P "steps_out" iU 199 Zk:=aQ (show lk P 199 Zk by kernel_rfl) (by kernel_rfl) (by kernel_rfl)
theorem a26(P:Params):nI P "stepped" 206:=by kernel_rfl
theorem u26(P:Params):FU P "stepped" qC 206 Zj:=aQ (show lk P 206 Zj by kernel_rfl) (by kernel_rfl) (by kernel_rfl)
theorem a27(P:Params):nI P "goals_of" 165:=by kernel_rfl
theorem u27(P:Params):FU P "goals_of" rZ 165 Zi:=aQ (show lk P 165 Zi by kernel_rfl) (by kernel_rfl) (by kernel_rfl)
theorem a28(P:Params):nI P "passed" 211:=by kernel_rfl
theorem u28(P:Params):FU P "passed" pI 211 Zh:=aQ (show lk P 211 Zh by kernel_rfl) (by kernel_rfl) (by kernel_rfl)
theorem a29(P:Params):nI P "turn" 223:=by kernel_rfl
theorem u29(P:Params):FU P "turn" Bs 223 Zg:=aQ (show lk P 223 Zg by kernel_rfl) (by kernel_rfl) (by kernel_rfl)
theorem a30(P:Params):nI P "rested" 228:=by kernel_rfl
theorem u30(P:Params):FU P "rested" pH 228 Zf:=aQ (show lk P 228 Zf by kernel_rfl) (by kernel_rfl) (by kernel_rfl)
theorem a31(P:Params):nI P "after" 235:=by kernel_rfl
theorem u31(P:Params):FU P "after" vP 235 Ze:=aQ (show lk P 235 Ze by kernel_rfl) (by kernel_rfl) (by kernel_rfl)
theorem a32(P:Params):nI P "_law_name" 256:=by kernel_rfl
theorem u32(P:Params):FU P "_law_name" rP 256 Zd:=aQ (show lk P 256 Zd by kernel_rfl) (by kernel_rfl) (by kernel_rfl)
theorem a33(P:Params):nI P "_law_deed" 263:=by kernel_rfl
theorem u33(P:Params):FU P "_law_deed" rT 263 Zc:=aQ (show lk P 263 Zc by kernel_rfl) (by kernel_rfl) (by kernel_rfl)
theorem a34(P:Params):nI P "_law_deeds" 270:=by kernel_rfl
theorem u34(P:Params):FU P "_law_deeds" qD 270 Za:=aQ (show lk P 270 Za by kernel_rfl) (by kernel_rfl) (by kernel_rfl)
theorem a35(P:Params):nI P "_law_guard" 277:=by kernel_rfl
theorem u35(P:Params):FU P "_law_guard" jK 277 ZZ:=aQ (show lk P 277 ZZ by kernel_rfl) (by kernel_rfl) (by kernel_rfl)
theorem a36(P:Params):nI P "_law_depths" 284:=by kernel_rfl
theorem u36(P:Params):FU P "_law_depths" nA 284 ZX:=aQ (show lk P 284 ZX by kernel_rfl) (by kernel_rfl) (by kernel_rfl)
theorem a37(P:Params):nI P "_law_rooms" 291:=by kernel_rfl
theorem u37(P:Params):FU P "_law_rooms" Bu 291 ZW:=aQ (show lk P 291 ZW by kernel_rfl) (by kernel_rfl) (by kernel_rfl)
theorem a38(P:Params):nI P "_law_doors" 296:=by kernel_rfl
theorem u38(P:Params):FU P "_law_doors" lK 296 ZV:=aQ (show lk P 296 ZV by kernel_rfl) (by kernel_rfl) (by kernel_rfl)
theorem a39(P:Params):nI P "_law_chart" 301:=by kernel_rfl
theorem u39(P:Params):FU P "_law_chart" lM 301 ZS:=aQ (show lk P 301 ZS by kernel_rfl) (by kernel_rfl) (by kernel_rfl)
theorem a40(P:Params):nI P "_law_holds" 327:=by kernel_rfl
theorem u40(P:Params):FU P "_law_holds" jJ 327 ZR:=aQ (show lk P 327 ZR by kernel_rfl) (by kernel_rfl) (by kernel_rfl)
theorem a41(P:Params):nI P "_law_lies" 334:=by kernel_rfl
theorem u41(P:Params):FU P "_law_lies" K8 334 ZQ:=aQ (show lk P 334 ZQ by kernel_rfl) (by kernel_rfl) (by kernel_rfl)
theorem a42(P:Params):nI P "_law_answer" 341:=by kernel_rfl
theorem u42(P:Params):FU P "_law_answer" nC 341 ZP:=aQ (show lk P 341 ZP by kernel_rfl) (by kernel_rfl) (by kernel_rfl)
theorem a43(P:Params):nI P "_law_chosen" 346:=by kernel_rfl
theorem u43(P:Params):FU P "_law_chosen" fU 346 ZM:=aQ (show lk P 346 ZM by kernel_rfl) (by kernel_rfl) (by kernel_rfl)
theorem a44(P:Params):nI P "_law_kids" 351:=by kernel_rfl
theorem u44(P:Params):FU P "_law_kids" lJ 351 ZL:=aQ (show lk P 351 ZL by kernel_rfl) (by kernel_rfl) (by kernel_rfl)
theorem a45(P:Params):nI P "_law_hall" 358:=by kernel_rfl
theorem u45(P:Params):FU P "_law_hall" rQ 358 ZK:=aQ (show lk P 358 ZK by kernel_rfl) (by kernel_rfl) (by kernel_rfl)
theorem a46(P:Params):nI P "_law_bears" 365:=by kernel_rfl
theorem u46(P:Params):FU P "_law_bears" vU 365 ZJ:=aQ (show lk P 365 ZJ by kernel_rfl) (by kernel_rfl) (by kernel_rfl)
theorem a47(P:Params):nI P "_law_ins" 370:=by kernel_rfl
theorem u47(P:Params):FU P "_law_ins" n6 370 ZG:=aQ (show lk P 370 ZG by kernel_rfl) (by kernel_rfl) (by kernel_rfl)
theorem a48(P:Params):nI P "_law_same" 320:=by kernel_rfl
theorem u48(P:Params):FU P "_law_same" Ac 320 ZF:=aQ (show lk P 320 ZF by kernel_rfl) (by kernel_rfl) (by kernel_rfl)
theorem a49(P:Params):nI P "_law_does" 377:=by kernel_rfl
theorem u49(P:Params):FU P "_law_does" rR 377 ZD:=aQ (show lk P 377 ZD by kernel_rfl) (by kernel_rfl) (by kernel_rfl)
theorem a50(P:Params):nI P "_law_opened" 308:=by kernel_rfl
theorem u50(P:Params):FU P "_law_opened" gf 308 ZC:=aQ (show lk P 308 ZC by kernel_rfl) (by kernel_rfl) (by kernel_rfl)
theorem a51(P:Params):nI P "_law_stand" 313:=by kernel_rfl
theorem u51(P:Params):FU P "_law_stand" lH 313 Z9:=aQ (show lk P 313 Z9 by kernel_rfl) (by kernel_rfl) (by kernel_rfl)
theorem a52(P:Params):nI P "_law_kept" 382:=by kernel_rfl
theorem u52(P:Params):FU P "_law_kept" uF 382 Z8:=aQ (show lk P 382 Z8 by kernel_rfl) (by kernel_rfl) (by kernel_rfl)
theorem a53(P:Params):nI P "_law_pass" 387:=by kernel_rfl
theorem u53(P:Params):FU P "_law_pass" pJ 387 Z7:=aQ (show lk P 387 Z7 by kernel_rfl) (by kernel_rfl) (by kernel_rfl)
theorem a54(P:Params):nI P "_law_run" 392:=by kernel_rfl
theorem u54(P:Params):FU P "_law_run" rO 392 Z6:=aQ (show lk P 392 Z6 by kernel_rfl) (by kernel_rfl) (by kernel_rfl)
theorem a55(P:Params):nI P "law" 399:=by kernel_rfl
theorem u55(P:Params):FU P "law" ug 399 Ss:=aQ (show lk P 399 Ss by kernel_rfl) (by kernel_rfl) (by kernel_rfl)
theorem aM1(P:Params):PySem.W.findIn (KO P) (.ref 109) "__init__" = some (some (.ref 85)):=by kernel_rfl
theorem iM1(P:Params):PySem.W.isFn (KO P) (.ref 85)=true:=by kernel_rfl
theorem uM1(P:Params):cZ (KO P) "__init__" "Letters.__init__" K9 85 Z5:=aQ (show (KO P).lookup 85=some (fL Z5) by kernel_rfl) (by kernel_rfl) (by kernel_rfl)
theorem aM2(P:Params):PySem.W.findIn (KO P) (.ref 109) "add" = some (some (.ref 92)):=by kernel_rfl
theorem iM2(P:Params):PySem.W.isFn (KO P) (.ref 92)=true:=by kernel_rfl
theorem uM2(P:Params):cZ (KO P) "add" "Letters.add" Uq 92 Z4:=aQ (show (KO P).lookup 92=some (fL Z4) by kernel_rfl) (by kernel_rfl) (by kernel_rfl)
theorem aM3(P:Params):PySem.W.findIn (KO P) (.ref 109) "taken" = some (some (.ref 99)):=by kernel_rfl
theorem iM3(P:Params):PySem.W.isFn (KO P) (.ref 99)=true:=by kernel_rfl
theorem uM3(P:Params):cZ (KO P) "taken" "Letters.taken" Bt 99 Z3:=aQ (show (KO P).lookup 99=some (fL Z3) by kernel_rfl) (by kernel_rfl) (by kernel_rfl)
theorem aM4(P:Params):PySem.W.findIn (KO P) (.ref 109) "waiting" = some (some (.ref 106)):=by kernel_rfl
theorem iM4(P:Params):PySem.W.isFn (KO P) (.ref 106)=true:=by kernel_rfl
theorem uM4(P:Params):cZ (KO P) "waiting" "Letters.waiting" rW 106 Z2:=aQ (show (KO P).lookup 106=some (fL Z2) by kernel_rfl) (by kernel_rfl) (by kernel_rfl)
theorem aC(P:Params):nI P "Letters" 109:=by kernel_rfl
theorem clC(P:Params):Dt (KO P) 109:=⟨by kernel_rfl,by kernel_rfl,by kernel_rfl,by kernel_rfl⟩
theorem mkC(P:Params):PySem.W.makesIn (KO P) 109=true/\PySem.W.keepIn (KO P) (.ref 109)=true:=⟨by kernel_rfl,by kernel_rfl⟩
theorem RK(P:Params):PySem.W.findIn (KO P) (.ref 109) "most" = some none:=by kernel_rfl
theorem Ib(P:Params):PySem.W.findIn (KO P) (.ref 109) "events" = some none:=by kernel_rfl
theorem z1(P:Params):PySem.W.nsIn (KO P) mainGlobals "len" = some none:=by kernel_rfl
theorem z2(P:Params):PySem.W.nsIn (KO P) mainGlobals "max" = some none:=by kernel_rfl
theorem z3(P:Params):PySem.W.nsIn (KO P) mainGlobals "min" = some none:=by kernel_rfl
theorem z4(P:Params):PySem.W.nsIn (KO P) mainGlobals "range" = some none:=by kernel_rfl
theorem z5(P:Params):PySem.W.nsIn (KO P) mainGlobals "list" = some none:=by kernel_rfl
theorem z6(P:Params):PySem.W.nsIn (KO P) mainGlobals "tuple" = some none:=by kernel_rfl
theorem z7(P:Params):PySem.W.nsIn (KO P) mainGlobals "isinstance" = some none:=by kernel_rfl
theorem z8(P:Params):PySem.W.nsIn (KO P) mainGlobals "int" = some none:=by kernel_rfl
theorem z9(P:Params):PySem.W.nsIn (KO P) mainGlobals "bool" = some none:=by kernel_rfl
theorem z10(P:Params):PySem.W.nsIn (KO P) mainGlobals "sorted" = some none:=by kernel_rfl
theorem z11(P:Params):PySem.W.nsIn (KO P) mainGlobals "any" = some none:=by kernel_rfl
theorem z12(P:Params):PySem.W.nsIn (KO P) mainGlobals "enumerate" = some none:=by kernel_rfl
theorem z13(P:Params):PySem.W.nsIn (KO P) mainGlobals "str" = some none:=by kernel_rfl
theorem z14(P:Params):PySem.W.nsIn (KO P) mainGlobals "reversed" = some none:=by kernel_rfl
end Ru
namespace L2
open PySem PyProof.Rows
theorem okS{P:Program}{w:World}{K:PySem.W.Frag}{mg:Str->Option Value}{base:Heap}{x qual:Str}{st:Stmt}{f:Addr}{fd:FuncData}{N ps:List Str}{k:Nat}{sp:Sp}(sc:Scope)(hsc:aG st=sc)(F:cZ K x qual st f fd)(S:aN N ps sc)(len:∀ vs H Q E,sp vs H Q E->vs.length=ps.length)
  (hbody:∀(cdv:Value)(A:Around)(outer:List Env)(s:Shared)(H:Hp)(vs:List V)(Q:VK)(E:XK),iH k (A.deeper (envOfC qual sc s.heap.objs.size f cdv))->sp vs H Q E →
   ∃ t,Gi (JL aq P w K mg base N qual sc f cdv A outer s H E).nox (jy st) t/\t { nx:=fun _ H'=>Q .non H',rt:=Q } (start N vs) H):aL P w K mg base aq (k+1) f fd ps sp:=by
 subst hsc
 exact F.ok S len hbody
end L2
namespace L2
open PySem PySem.Spec PyProof.Rows
section
variable{X:Cx}{pins:List (Addr × Obj)}{σ:St}{H:Hp}{s:Shared}{a:Addr}{o:HO}
theorem qW.adopt{P:Program}{w:World}{h:Heap}(x:qW P w H h)(hn:H a=none)(new:cV P w (upd H a o) h a o):qW P w (upd H a o) h:=fun b u e=>by
 by_cases hb:b=a
 ·subst hb;rw[zC]at e;cases e;exact new
 ·rw[zQ hb]at e
  exact (x b u e).stay (fun c v _ q=>q) (fun c q=>by rw[zQ (zM q hn)];exact q) fun c xs q=>by rw[zQ (zM q hn)];exact q
theorem Inv.adopt(I:Inv X pins σ H s)(f:oh X pins H a)(new:cV X.prog X.w (upd H a o) s.heap a o):Inv X pins σ (upd H a o) s:=by
 obtain⟨hn,hL,hfs,hex,hc,hp⟩:=f
 refine⟨I.ok,I.os,I.bare,⟨I.base.keep,I.base.slot,fun b ob e n hx=>?_,I.base.there,fun b xs e=>?_,fun b ob u e=>?_,fun b ps e=>?_⟩,I.loc,I.cell,by rw[zQ (Ne.symm hL)];exact I.free,fun x c e=>by rw[zQ (hc x c e)];exact I.pR x c e,fun p q=>?_,qW.adopt I.hok hn new,I.len⟩
 ·have nb:b ≠ a:=fun z=>by
   rcases hex with z' | z'
   ·exact hx (z ▸ z')
   ·exact absurd (Heap.lt_size e) (by rw[z];exact Nat.not_lt.mpr z')
  rw[zQ nb]
  exact I.base.free b ob e n hx
 ·have q:=I.base.tups b xs e
  rw[zQ (zM q hn)]
  exact q
 ·have q:=I.base.yw b ob u e
  rw[zQ (zM q hn)]
  exact q
 ·obtain⟨m,q⟩:=I.base.Bl b ps e
  exact⟨m,by rw[zQ (zM q hn)];exact q⟩
 ·obtain⟨e,n,r⟩:=I.pin p q
  exact⟨e,by rw[zQ (hp p q)];exact n,r⟩
end
theorem lq{α β:Type}{f:α->β->Sem (ForInStep β)}{g:α->β->β}:∀(l:List α)(c:β),(∀ x∈l,∀ c,f x c=pure (.yield (g x c)))->forIn l c f=pure (l.foldl (fun c x=>g x c) c)
 | [],_,_=>rfl
 | x :: l,c,h=>by
  rw[List.forIn_cons,h x List.mem_cons_self,pure_bind]
  exact lq l (g x c) fun y hy=>h y (List.mem_cons_of_mem _ hy)
def clG(env:Env)(x:Str × NameKind)(c:List (Str × Addr)):List (Str × Addr):=if (x.2 == NameKind.free)=true then (x.1,(env.cells.lookup x.1).getD 0) :: c else c
def Cy(env:Env)(scope:Scope):List (Str × Addr):=scope.names.foldl (fun c x=>clG env x c) []
theorem xn{env:Env}{scope:Scope}(h:∀ y∈scope.names,y.2 = .free->∃ c,env.cells.lookup y.1=some c):closureFor scope env=pure (Cy env scope):=by
 simp only[closureFor]
 rw[lq (g:=clG env) scope.names [] (fun x hx c=>by
  obtain⟨n,k⟩:=x
  unfold clG
  by_cases hk:(k == NameKind.free)=true
  ·obtain⟨a,ha⟩:=h _ hx (by simpa using hk)
   have ha':env.cells.lookup n=some a:=ha
   simp only[hk,if_true,cellOf,ha',pure_bind,Option.getD_some]
  ·have hk':(k == NameKind.free)=false:=Bool.eq_false_iff.mpr hk
   simp only[hk',Bool.false_eq_true,if_false])]
 rfl
theorem xq{env:Env}:∀(l:List (Str × NameKind))(cs:List (Str × Addr)),(∀ y∈l,y.2 = .free->∃ c,env.cells.lookup y.1=some c)->(∀ y c,cs.lookup y=some c->env.cells.lookup y=some c) →
  (∀ y c,(l.foldl (fun c x=>clG env x c) cs).lookup y=some c->env.cells.lookup y=some c)/\∀ y,((cs.lookup y).isSome=true ∨ (y,NameKind.free)∈l)->((l.foldl (fun c x=>clG env x c) cs).lookup y).isSome=true
 | [],cs,_,h=>⟨h,fun y hy=>hy.elim id fun z=>absurd z (by simp)⟩
 | (n,k) :: l,cs,hf,h=>by
  have hf':∀ y∈l,y.2 = .free->∃ c,env.cells.lookup y.1=some c:=fun y hy=>hf y (List.mem_cons_of_mem _ hy)
  rw[List.foldl_cons]
  by_cases hk:k = .free
  ·subst hk
   obtain⟨a,ha⟩:=hf (n,.free) List.mem_cons_self rfl
   have ha':env.cells.lookup n=some a:=ha
   have e:clG env (n,.free) cs=(n,a) :: cs:=by
    unfold clG
    rw[if_pos (by rfl)]
    show (n,(env.cells.lookup n).getD 0) :: cs=_
    rw[ha']
    rfl
   rw[e]
   have ih:=xq l ((n,a) :: cs) hf' (fun y c hy=>by
    rw[List.lookup_cons]at hy
    cases hb:y == n with
    | true=>
     rw[hb]at hy
     rw[eq_of_beq hb]
     exact ha'.trans hy
    | false=>
     rw[hb]at hy
     exact h y c hy)
   refine⟨ih.1,fun y hy=>ih.2 y ?_⟩
   rcases hy with hy | hy
   ·left
    rw[List.lookup_cons]
    cases y == n with
    | true=>rfl
    | false=>exact hy
   ·rcases dG.mp hy with hy | hy
    ·left
     rw[(Prod.mk.inj hy).1,List.lookup_cons]
     simp
    ·exact .inr hy
  ·have e:clG env (n,k) cs=cs:=by
    unfold clG
    rw[if_neg (by simpa using hk)]
   rw[e]
   have ih:=xq l cs hf' h
   refine⟨ih.1,fun y hy=>ih.2 y ?_⟩
   rcases hy with hy | hy
   ·exact .inl hy
   ·rcases dG.mp hy with hy | hy
    ·exact absurd (Prod.mk.inj hy).2.symm hk
    ·exact .inr hy
theorem iz{env:Env}:∀ {names:List (Str × NameKind)} {x:Str},names.lookup x=some .free →
  (names.map fun (n,k)=>if (k == NameKind.free && env.scope.kind == .function && env.kindOf n == some .cell) then (n,NameKind.cell) else (n,k)).lookup x ≠ some .local
 | [],_,h=>by simp at h
 | (n,k) :: r,x,h=>by
  have ih:=@iz env r x
  show List.lookup x ((if (k == NameKind.free && env.scope.kind == .function && env.kindOf n == some .cell)=true then (n,NameKind.cell) else (n,k)) :: _) ≠ _
  cases hx:x == n with
  | true=>
   simp only[List.lookup_cons,hx]at h
   cases h
   split
   ·simp [List.lookup_cons,hx]
   ·simp [List.lookup_cons,hx]
  | false=>
   simp only[List.lookup_cons,hx]at h
   by_cases hc:(k == NameKind.free && env.scope.kind == .function && env.kindOf n == some .cell)=true
   ·rw[if_pos hc];simp only[List.lookup_cons,hx];exact ih h
   ·rw[if_neg hc];simp only[List.lookup_cons,hx];exact ih h
theorem vJ{env:Env}{scope:Scope}{y:Str}(nc:∀ z∈scope.names,z.2 ≠ .cell)(h:(relabel scope env).names.lookup y=some .cell ∨ (relabel scope env).names.lookup y=some .free):(y,NameKind.free)∈scope.names:=by
 have go:∀ k,(k=NameKind.cell ∨ k=NameKind.free)->(relabel scope env).names.lookup y=some k->(y,NameKind.free)∈scope.names:=fun k hk e=>by
  have m:=PySem.mem_of_lookup e
  obtain⟨⟨n,k'⟩,hm,e'⟩:=fO.mp m
  by_cases hc:(k' == NameKind.free && env.scope.kind == .function && env.kindOf n == some .cell)=true
  ·have e2:(n,NameKind.cell)=(y,k):=by
    rw[<-e']
    show _=(if (k' == NameKind.free && env.scope.kind == .function && env.kindOf n == some .cell)=true then (n,NameKind.cell) else (n,k'))
    rw[if_pos hc]
   have hk':k' = .free:=by
    simp only[Bool.and_eq_true,beq_iff_eq]at hc
    exact hc.1.1
   rw[<-(Prod.mk.inj e2).1,<-hk']
   exact hm
  ·have e2:(n,k')=(y,k):=by
    rw[<-e']
    show _=(if (k' == NameKind.free && env.scope.kind == .function && env.kindOf n == some .cell)=true then (n,NameKind.cell) else (n,k'))
    rw[if_neg hc]
   rcases hk with hk | hk
   ·exact absurd ((Prod.mk.inj e2).2.trans hk) (nc _ hm)
   ·rw[<-(Prod.mk.inj e2).1,<-hk,<-(Prod.mk.inj e2).2]
    exact hm
 rcases h with h | h
 ·exact go _ (.inl rfl) h
 ·exact go _ (.inr rfl) h
def nj(X:Cx)(N:List Str)(scope:Scope)(C:Addr)(s:Shared)(H:Hp)(ex:List Addr)(pn:List (Addr × Obj))(E:Value->Shared->Prop):Cx where
 prog:=X.prog
 w:=X.w
 K:=X.K
 mg:=X.mg
 base:=X.base
 A:=X.A
 N:=N
 s₀:=s
 H₀:=H
 env:=compEnvC scope (Cy X.env scope) C X.env
 outer:=X.stack
 stack:=X.stack
 ex:=ex
 fn:=fun _=>false
 calm:=X.calm
 pn:=pn
 xe:=E
structure bQ(osc:Scope)(N:List Str)(scope:Scope)(x:Str)(bY:List (Nat × Str)):Prop where
 kind:scope.kind = .function
 hx:scope.names.lookup x=some .local
 Wv:∀ y∈scope.names,y.2 ≠ .cell
 qBG:∀ y∈scope.names,y.2 = .local->scope.names.lookup y.1=some .local
 free:∀ y∈scope.names,y.2 = .free->osc.names.lookup y.1=some .cell ∨ osc.names.lookup y.1=some .free
 cap:∀ p∈bY,N[p.1]? = some p.2/\scope.names.lookup p.2=some .free
 nd:(x :: bY.map (·.2)).Nodup
def JQ(bY:List (Nat × Str))(σ:St):St:=bY.map fun p=>(σ[p.1]?).getD none
def Ou(X:Cx)(ifs:List Expr)(tc:TT):Prop:=
 ∀(pins:List (Addr × Obj))(s:Shared)(σ:St)(H:Hp)(Q:Bool->Hp->Prop),Inv X pins σ H s->tc σ H Q →
  wpAny (model X.prog X.w) X.A (forIn ifs true fun c r=>if r=true then do let ok ← isTrue c X.env (eval c X.env);pure (ForInStep.yield ok) else pure (ForInStep.yield r)) (TP X pins σ Q) X.xe s
def qCH:TT:=fun _ H Q=>Q true H
theorem fG{X:Cx}:Ou X [] qCH:=fun _ _ _ H _ I h=>by
 simp only[List.forIn_nil]
 exact wpAny_pure ⟨H,I,h⟩
theorem bU{X:Cx}{c:Expr}{tc:TT}(h:PT X c tc):Ou X [c] tc:=by
 intro pins s σ H Q I hq
 simp only[List.forIn_cons,List.forIn_nil,if_true]
 exact wpAny_bind (wpAny_bind (wpAny_mono (h pins s σ H Q I hq) (fun b s' hb=>wpAny_pure (wpAny_pure hb)) fun _ _ x=>x))
def fP(J:It)(cs:St)(tc:TT)(te:TE)(H1:Hp)(Z:List V->Hp->Prop):Prop:=
 ∃ W:Nat->Nat->List V->Hp->Prop,(∃ m,W 0 m [] H1)/\∀ i m acc H,W i m acc H →
  (J.stop i H/\Z acc H) ∨ (J.go i H/\∃ N:List V->Hp->Prop,(∀ a H',N a H'->∃ m',m' < m/\W (i+1) m' a H') ∧
   ∀ x H',J.Ub i H x H'->tc (some x :: cs) H' fun b H2=>if b=true then te (some x :: cs) H2 fun v H3=>acc.length < sizeLine/\N (acc++[v]) H3 else N acc H2)
def Wl(wi:TI)(bY:List (Nat × Str))(tc:TT)(te:TE):TE:=fun σ H Q=>wi σ H fun J H1=>fP J (JQ bY σ) tc te H1 fun acc H2 => ∀ p,H2 p=none->Q (.ref p) (upd H2 p (.lst acc))
theorem Ob{X:Cx}{elt iter:Expr}{x:Str}{ns:List Str}{px pos:Pos}{ifs:List Expr}{scope:Scope}{it D:Addr}{fp:List Addr}{tn:Nat->Heap->Prop}{J:It}{tc:TT}{te:TE}{Z:List V->Hp->Prop}{R:Result->Shared->Prop}
  {cs:St} {o:Option V} {H:Hp} {s:Shared} (hc:X.calm=true) (hN:X.N=x :: ns) (nd:X.N.Nodup) (hx:X.env.scope.names.lookup x=some .local) (I:Inv X [] (o :: cs) H s) (T:Turn X.prog X.w X.K (.Name x px) J fp it tn) (st:tn 0 s.heap) (hf:∀ b∈fp,oh X [] H b)
  (hD:oh X [] H D) (hDf:D ∉ fp) (pl:s.heap.PlainList D #[]) (JB:Ou X ifs tc) (helt:PE X elt te) (hW:fP J cs tc te H Z) (hxe:X.xe=notedBy (model X.prog X.w) X.A X.env fun e s'=>R (.error e) s')
  (hR:∀(s':Shared)(H':Hp)(acc:List V)(its:List Value)(o':Option V),Inv X [] (o' :: cs) H' s'->s'.heap.PlainList D its.toArray->Vals acc its->acc.length<=sizeLine->H' D=none->Z acc H'->R (.ok .next) s') :
  codeAny (model X.prog X.w) X.A (.compLoop (.ListComp elt [⟨.Name x px,iter,ifs,0⟩] scope pos) 0 (.ref it) (.ref D) X.env) R s:=by
 obtain⟨W,⟨m0,w0⟩,turn⟩:=hW
 refine codeAny_compLoop_tests (fun n s' => ∃(i:Nat)(acc:List V)(its:List Value)(H':Hp)(o':Option V),Inv X [] (o' :: cs) H' s'/\tn i s'.heap/\(∀ b∈fp,H' b=none)/\H' D=none/\s'.heap.PlainList D its.toArray/\Vals acc its/\acc.length<=sizeLine/\W i n acc H') ?_ m0
  ⟨0,[],[],H,o,I,st,fun b hb=>(hf b hb).1,hD.1,pl,.nil,Nat.zero_le _,w0⟩
 rintro n s3 ⟨i,acc,its,H3,o3,I3,st3,Vu,hD3,⟨nD,gD⟩,va,hl,w3⟩
 rw[<-hxe]
 -- the list is pinned through the turn
 have I4:Inv X [(D,{ cls:=.type "list",data:=.seq its.toArray nD })] (o3 :: cs) H3 s3:=I3.sO fun p hp=>by
  obtain rfl:p=(D,{ cls:=.type "list",data:=.seq its.toArray nD }):=by simpa using hp
  exact⟨gD,hD3,hD.2.1,hD.2.2.1,fun v z=>by cases (show Data.seq its.toArray nD=Data.cell v from z)⟩
 have stat:∀ {H':Hp},(∀ b∈fp,H' b=none)->∀ b∈fp,oh X [(D,{ cls:=.type "list",data:=.seq its.toArray nD })] H' b:=fun hn b hb=>by
  obtain⟨_,f1,f2,f3,f4,f5⟩:=hf b hb
  refine⟨hn b hb,f1,f2,f3,f4,fun p hp=>?_⟩
  rcases cX.mp hp with z | z
  ·exact f5 p (List.mem_append_left _ z)
  ·obtain rfl:p=(D,{ cls:=.type "list",data:=.seq its.toArray nD }):=by simpa using z
   exact fun e=>hDf (by rw[show D=b from e];exact hb)
 rcases turn i n acc H3 w3 with ⟨stop,z⟩ | ⟨go,N,hNn,step⟩
 ·refine cA (T.done X rfl rfl rfl hc i _ s3 (o3 :: cs) H3 X.xe I4 (stat Vu) st3 stop) fun r s4 ⟨hr,I5⟩=>?_
  subst hr
  exact hR s4 H3 acc its o3 (I5.sO fun p hp=>absurd hp (by simp)) ⟨nD,(I5.pin _ (List.mem_append_right _ (List.mem_singleton.mpr rfl))).1⟩ va hl hD3 z
 ·refine cA (T.item X rfl rfl rfl hc i _ s3 (o3 :: cs) H3 X.xe I4 (stat Vu) st3 go) fun r s4 ⟨u,hr,h4⟩=>?_
  subst hr
  have e0:(letOwnedTupleGo (.Name x px) (.ref it) u >>= fun _=>assign (.Name x px) X.env u)=assign (.Name x px) X.env u:=rfl
  show wpAny _ _ (assign (.Name x px) X.env u) _ _ s4
  rw[<-e0]
  refine wpAny_bind (cA h4 fun _ s5 ⟨xv,H5,I5,r5,y5,Gs,fr5⟩=>?_)
  have I5':=I5.pinned (stat fr5) (T.obj _ _ Gs)
  refine wpAny_assign_Name (rG (i:=0) I5' nd (by rw[hN] <;> rfl) (.inl hx) r5 (fun s6 I6=>?_) (.inr hx))
  have I6':Inv X ([(D,{ cls:=.type "list",data:=.seq its.toArray nD })]++uJ fp s5.heap) (some xv :: cs) H5 s6:=I6
  -- what stays of the iterator and of the list,at any later state of the turn
  have later:∀ {σ':St} {H':Hp} {s':Shared},Inv X ([(D,{ cls:=.type "list",data:=.seq its.toArray nD })]++uJ fp s5.heap) σ' H' s' →
    Inv X [] σ' H' s'/\tn (i+1) s'.heap/\(∀ b∈fp,H' b=none)/\H' D=none/\s'.heap.get? D=some { cls:=.type "list",data:=.seq its.toArray nD }:=fun {σ' H' s'} J'=>by
   have pD:=J'.pin (D,{ cls:=.type "list",data:=.seq its.toArray nD }) (List.mem_append_right _ (List.mem_append_left _ (cJ.mpr rfl)))
   refine⟨J'.sO fun p hp=>absurd hp (by simp),T.keep _ _ _ Gs fun b hb ob e=>(J'.pin (b,ob) (List.mem_append_right _ (List.mem_append_right _ (nQ hb e)))).1,fun b hb=>?_,pD.2.1,pD.1⟩
   obtain⟨ob,e,_⟩:=T.obj _ _ Gs b hb
   exact (J'.pin (b,ob) (List.mem_append_right _ (List.mem_append_right _ (nQ hb e)))).2.1
  refine cA (JB _ s6 (some xv :: cs) H5 _ I6' (step xv H5 y5)) fun b s7 ⟨H7,I7,q7⟩=>?_
  cases b with
  | false=>
   obtain⟨m',hm,w7⟩:∃ m',m' < n/\W (i+1) m' acc H7:=hNn acc H7 q7
   obtain⟨l1,l2,l3,l4,l5⟩:=later I7
   exact⟨m',hm,i+1,acc,its,H7,some xv,l1,l2,l3,l4,⟨nD,l5⟩,va,hl,w7⟩
  | true=>
   have q7':te (some xv :: cs) H7 fun v H3=>acc.length < sizeLine/\N (acc++[v]) H3:=q7
   show wpAny _ _ (eval elt X.env) _ _ s7
   refine cA (helt _ s7 (some xv :: cs) H7 _ I7 q7') fun u8 s8 ⟨v,H8,I8,r8,hlt,n8⟩=>?_
   obtain⟨m',hm,w8⟩:=hNn _ _ n8
   obtain⟨l1,l2,l3,l4,l5⟩:=later I8
   have hlen:=va.length
   refine wpAny_list_append_plain (hsz:=by simp only[List.size_toArray];lia) ⟨nD,l5⟩ fun h9 pl9 sb9=>?_
   refine⟨m',hm,i+1,acc++[v],its++[u8],H8,some xv,l1.turned (t':=s8.toks) (fun b ob hb e=>(sb9.2 b hb).trans e) l4 hD.2.1 hD.2.2.2.1 hD.2.2.2.2.1 hD.2.2.2.2.2,?_,l3,l4,by simpa using pl9,va.append (.cons r8 .nil),?_,w8⟩
   ·exact T.keep _ _ _ l2 fun b hb ob e=>(sb9.2 b (fun z=>hDf (z ▸ hb))).trans e
   ·rw[dJ,jj]
    lia
section
variable{X:Cx}{elt iter:Expr}{x:Str}{px pos:Pos}{ifs:List Expr}{scope:Scope}{bY:List (Nat × Str)}{wi:TI}{tc:TT}{te:TE}
theorem Inv.Q7{pins:List (Addr × Obj)}{σ:St}{H:Hp}{s:Shared}{b:Addr}(I:Inv X pins σ H s)(h1:b ≠ X.env.locals)(h2:b ∉ X.fs):b ∉ frs X.stack:=fun z=>(dG.mp (I.HD b z)).elim h1 h2
theorem xj{pins:List (Addr × Obj)}{σ:St}{H:Hp}{s:Shared}{E:Value->Shared->Prop}{it:Addr}{fp:List Addr}{tn:Nat->Heap->Prop}{J:It}{Z:List V->Hp->Prop}{RR:Value->Addr->Result->Shared->Prop}
  (hc:X.calm=true) (S:bQ X.env.scope X.N scope x bY) (I:Inv X pins σ H s) (T:Turn X.prog X.w X.K (.Name x px) J fp it tn) (st:tn 0 s.heap) (hf:∀ b∈fp,oh X pins H b)
  (JB:∀ C s H ex pn E,Ou (nj X (x :: bY.map (·.2)) scope C s H ex pn E) ifs tc) (helt:∀ C s H ex pn E,PE (nj X (x :: bY.map (·.2)) scope C s H ex pn E) elt te)
  (hW:fP J (JQ bY σ) tc te H Z)
  (hRR:∀(s':Shared)(H':Hp)(acc:List V)(its:List Value)(D C:Addr)(m:Str->Option Value),Inv X pins σ H' s'->s'.heap.PlainList D its.toArray->Vals acc its->acc.length<=sizeLine->oh X pins H' D->oh X pins H' C->D ≠ C->s'.heap.Ns C m->Z acc H'->RR (.ref D) C (.ok .next) s') :
  wpAny (model X.prog X.w) X.A (newList []) (fun acc s₃=>wpAny (model X.prog X.w) X.A (newFunctionEnv scope X.env.globals (Cy X.env scope) [] X.env.qual none .none (some X.env)) (fun cenv s₄=>
   codeAny (model X.prog X.w) X.A (.compStart (.ListComp elt [⟨.Name x px,iter,ifs,0⟩] scope pos) 0 (.ref it) acc { cenv with scope:=relabel scope X.env }) (RR acc cenv.locals) s₄) E s₃) E s:=by
 refine wpAny_newObj_type (wpAny_newFunctionEnv S.Wv (by intro y hy;simp at hy) (fun h₁ hns₁ hsb₁=>?_) S.kind)
 dsimp only at hns₁ hsb₁ ⊢
 have hI3:Inv X pins σ H { s with heap:=s.heap.push { cls:=.type "list",dict:=none,data:=.seq ([]:List Value).toArray } }:=I.kept (t':=s.toks) fun b u e=>Heap.get?_push_of_some _ e
 have gD3:(s.heap.push { cls:=.type "list",dict:=none,data:=.seq ([]:List Value).toArray }).get? s.heap.objs.size=some { cls:=.type "list",dict:=none,data:=.seq ([]:List Value).toArray }:=Heap.get?_push_size _ rfl
 have Yn:(s.heap.push { cls:=.type "list",dict:=none,data:=.seq ([]:List Value).toArray }).objs.size=s.heap.objs.size+1:=Heap.size_push _ _
 generalize hH3:s.heap.push { cls:=.type "list",dict:=none,data:=.seq ([]:List Value).toArray }=h3 at hns₁ hsb₁ hI3 gD3 Yn ⊢
 have k3:∀ b u,s.heap.get? b=some u->h3.get? b=some u:=fun b u e=>hH3 ▸ Heap.get?_push_of_some _ e
 have k31:∀ b u,h3.get? b=some u->h₁.get? b=some u:=fun b u e=>(hsb₁.2 b (Nat.ne_of_lt (Heap.lt_size e))).trans (Heap.get?_push_of_some _ e)
 have k1:∀ b u,s.heap.get? b=some u->h₁.get? b=some u:=fun b u e=>k31 b u (k3 b u e)
 have hDC:s.heap.objs.size ≠ h3.objs.size:=by rw[Yn];exact Nat.ne_of_lt (Nat.lt_succ_self _)
 have fD:oh X pins H s.heap.objs.size:=I.yx (bu _) (I.hok.fresh (bu _))
 have fC:oh X pins H h3.objs.size:=I.yx (by rw[Yn];exact Nat.le_succ _) (I.hok.fresh (by rw[Yn];exact Nat.le_succ _))
 have lfp:∀ b∈fp,b < s.heap.objs.size:=fun b hb=>let ⟨_,e,_⟩:=T.obj _ _ st b hb;Heap.lt_size e
 have hDf:s.heap.objs.size ∉ fp:=fun z=>Nat.lt_irrefl _ (lfp _ z)
 -- the closure's cells are cells around
 have hfree:∀ y∈scope.names,y.2 = .free->∃ c,X.env.cells.lookup y.1=some c:=fun y hy e=>I.ok.has y.1 (S.free y hy e)
 obtain⟨sub,has⟩:=xq scope.names [] hfree (fun y c e=>by simp at e)
 have HB:∀ y c,(Cy X.env scope).lookup y=some c->X.env.cells.lookup y=some c:=sub
 have qC3:∀ y,(y,NameKind.free)∈scope.names->∃ c,(Cy X.env scope).lookup y=some c:=fun y hy=>Option.isSome_iff_exists.mp (has y (.inr hy))
 have inj:∀ b∈s.heap.objs.size :: fp,oh X pins H b:=fun b hb=>(dG.mp hb).elim (fun z=>z ▸ fD) (hf b)
 have ltC:∀ b∈s.heap.objs.size :: fp,b ≠ h3.objs.size:=fun b hb=>(dG.mp hb).elim (fun z=>z ▸ hDC) fun z=>Nat.ne_of_lt (by rw[Yn];exact Nat.lt_succ_of_lt (lfp b z))
 have I1:Inv (nj X (x :: bY.map (·.2)) scope h3.objs.size { s with heap:=h3 } H (s.heap.objs.size :: fp) (X.pn++pins)
   (notedBy (model X.prog X.w) X.A (compEnvC scope (Cy X.env scope) h3.objs.size X.env) fun e s'=>RR (.ref s.heap.objs.size) h3.objs.size (.error e) s')) [] (none :: JQ bY σ) H { s with heap:=h₁,toks:=s.toks+([]:List (Str × Value)).length }:=by
  refine⟨⟨I.ok.mod,S.kind,I.ok.glob,I.ok.blt,bu _,fun y z c e1 e2=>I.ok.inj y z c (HB _ _ e1) (HB _ _ e2),fun y hy=>qC3 y (vJ S.Wv hy),fun y c e=>(nomatch e),I.ok.hd,I.ok.frames,.inl rfl,fun b hb=>⟨ltC b hb,fun y c e=>(inj b hb).2.2.2.2.1 y c (HB y c e)⟩,
    fun b ob e=>⟨k3 b ob (I.bs b ob e).1,(I.bs b ob e).2⟩,?_,fun b ob e z=>?_,fun b hb=>I.Q7 (inj b hb).2.1 (inj b hb).2.2.1,?_,I.Jq⟩,
   rfl,I.bare,Un.kept k31,⟨_,hns₁,fun i y v e1 e2 e3=>?_⟩,fun y c e=>?_,fC.1,fun y c e=>I.pR y c (HB y c e),fun p hp=>?_,I.hok.kept k1,?_⟩
  ·exact Nat.le_trans I.ok.W5 (Nat.le_trans I.sz (by show s.heap.objs.size<=h3.objs.size;rw[Yn];exact Nat.le_succ _))
  ·rcases (inj b z).2.2.2.1 with w1 | w1
   ·exact I.ok.RJ b ob e w1
   ·exact absurd (Nat.lt_of_lt_of_le (Heap.lt_size e) I.ok.W5) (Nat.not_lt.mpr w1)
  ·exact Heap.FunFrames.of_keeps (fun b ob e _=>⟨ob,k3 b ob e,rfl⟩) I.stack
  ·cases i with
   | zero=>cases e2
   | succ i=>
    have e1':(bY.map (·.2))[i]? = some y:=e1
    have e2':(JQ bY σ)[i]? = some (some v):=e2
    unfold JQ at e2'
    rw[qd]at e1' e2'
    cases ep:bY[i]? with
    | none=>rw[ep]at e1';cases e1'
    | some p=>
     rw[ep]at e1' e2'
     obtain rfl:p.2=y:=oN e1'
     have Vx:(σ[p.1]?).getD none=some v:=oN e2'
     have hσ:σ[p.1]? = some (some v):=by
      cases es:σ[p.1]? with
      | none=>rw[es]at Vx;cases Vx
      | some w1=>rw[es]at Vx;exact congrArg some Vx
     obtain⟨cN,cF⟩:=S.cap p (List.mem_of_getElem? ep)
     have mF:(p.2,NameKind.free)∈scope.names:=PySem.mem_of_lookup cF
     have oF:=S.free _ mF rfl
     obtain⟨m,hn,hlook⟩:=I.loc
     obtain⟨u,ru,lk⟩:=hlook p.1 p.2 v cN hσ (.inr oF)
     refine⟨u,ru,.inr ⟨?_,?_⟩⟩
     ·rcases e3 with z | z
      ·exact absurd z (iz cF)
      ·exact z
     ·obtain⟨c,ec⟩:=qC3 p.2 mF
      refine⟨c,ec,?_⟩
      rcases lk with ⟨z,_⟩ | ⟨_,c',ec',ob,ho,hd⟩
      ·have z':X.env.scope.names.lookup p.2=some .local:=z
       rw[z']at oF
       rcases oF with q | q <;> cases q
      ·have ee:=(HB _ _ ec).symm.trans ec'
       cases ee
       exact⟨ob,k1 _ _ ho,hd⟩
  ·obtain⟨v,ob,ho,hd⟩:=I.cell y c (HB y c e)
   exact⟨v,ob,k1 _ _ ho,hd⟩
  ·have hp':p∈X.pn++pins:=by
    rcases cX.mp hp with z | z
    ·exact z
    ·exact absurd z (by simp)
   obtain⟨e,n,ne,nf,d⟩:=I.pin p hp'
   refine⟨k1 _ _ e,n,Nat.ne_of_lt ?_,I.Q7 ne nf,d⟩
   show p.1 < h3.objs.size
   rw[Yn]
   exact Nat.lt_succ_of_lt (Heap.lt_size e)
  ·show (none :: JQ bY σ).length=(x :: bY.map (·.2)).length
   simp [JQ]
 have hf1:∀ b∈s.heap.objs.size :: fp,oh (nj X (x :: bY.map (·.2)) scope h3.objs.size { s with heap:=h3 } H (s.heap.objs.size :: fp) (X.pn++pins)
   (notedBy (model X.prog X.w) X.A (compEnvC scope (Cy X.env scope) h3.objs.size X.env) fun e s'=>RR (.ref s.heap.objs.size) h3.objs.size (.error e) s')) [] H b:=fun b hb=>by
  obtain⟨f0,f1,f2,f3,f4,f5⟩:=inj b hb
  refine⟨f0,ltC b hb,I.Q7 f1 f2,.inl hb,fun y c e=>f4 y c (HB y c e),fun p hp=>f5 p ?_⟩
  rcases cX.mp hp with z | z
  ·exact z
  ·exact absurd z (by simp)
 have st1:tn 0 h₁:=T.keep _ _ _ st fun b _ ob e=>k1 b ob e
 have loop:codeAny (model X.prog X.w) X.A (.compLoop (.ListComp elt [⟨.Name x px,iter,ifs,0⟩] scope pos) 0 (.ref it) (.ref s.heap.objs.size) (compEnvC scope (Cy X.env scope) h3.objs.size X.env)) (RR (.ref s.heap.objs.size) h3.objs.size) { s with heap:=h₁,toks:=s.toks+([]:List (Str × Value)).length }:=by
  refine Ob (X:=nj X (x :: bY.map (·.2)) scope h3.objs.size { s with heap:=h3 } H (s.heap.objs.size :: fp) (X.pn++pins) (notedBy (model X.prog X.w) X.A (compEnvC scope (Cy X.env scope) h3.objs.size X.env) fun e s'=>RR (.ref s.heap.objs.size) h3.objs.size (.error e) s'))
   hc rfl S.nd (lookup_relabel_local S.hx) I1 T st1 (fun b hb=>hf1 b (List.mem_cons_of_mem _ hb)) (hf1 _ List.mem_cons_self) hDf ⟨0,k31 _ _ gD3⟩ (JB _ _ _ _ _ _) (helt _ _ _ _ _ _) hW rfl ?_
  intro s' H' acc its o' J1 plD va hlen nD z
  have u1:Un (frs X.stack) (s.heap.objs.size :: fp) H H' h3 s'.heap:=J1.base
  have J2:Inv X pins σ H' s':=Inv.call' (s:={ s with heap:=h3 }) hI3 J1.os u1 J1.hok J1.bare fun b hb=>by
   obtain⟨_,f1,_,f3,f4,f5⟩:=inj b hb
   exact⟨f3,f1,f4,f5⟩
  obtain⟨m,hn,_⟩:=J1.loc
  exact hRR s' H' acc its _ _ m J2 plD va hlen ⟨nD,fD.2⟩ ⟨J1.free,fC.2⟩ hDC hn z
 exact codeAny_compStart_list loop (T.self _ 0 _ _ _ st1 loop)
theorem yT(hc:X.calm=true)(S:bQ X.env.scope X.N scope x bY)(hi:PI X (.Name x px) iter wi)
  (JB:∀ C s H ex pn E,Ou (nj X (x :: bY.map (·.2)) scope C s H ex pn E) ifs tc) (helt:∀ C s H ex pn E,PE (nj X (x :: bY.map (·.2)) scope C s H ex pn E) elt te)
  (hs:∀ x,foldedSetIterable iter X.env x=pure x:=by intro _;rfl):PE X (.ListComp elt [⟨.Name x px,iter,ifs,0⟩] scope pos) (Wl wi bY tc te):=by
 intro pins s σ H Q I h
 have hfree:∀ y∈scope.names,y.2 = .free->∃ c,X.env.cells.lookup y.1=some c:=fun y hy e=>I.ok.has y.1 (S.free y hy e)
 rw[eval_ListComp]
 refine wpAny_comprehension_free (use:=none) rfl hs (xn hfree) S.kind S.qBG (cA (hi pins s σ H _ I h) fun v s1 h1=>cA h1 fun itv s2 h2=>?_)
 obtain⟨it,fp,tn,J,H2,e,I2,T,st2,f2,hW⟩:=h2
 subst e
 refine xj (RR:=fun acc C=>compPost (model X.prog X.w) X.A X.xe none (EP X pins σ Q) acc C) hc S I2 T st2 f2 JB helt hW ?_
 intro s' H' acc its D C m J2 plD va hlen fD fC hDC hn z
 obtain⟨nD,gD⟩:=plD
 refine⟨m,hn,fun h'' sb=>?_⟩
 have J3:Inv X pins σ H' { s' with heap:=h'' }:=J2.turned (t':=s'.toks) (fun b ob hb e=>(sb.2 b hb).trans e) fC.1 fC.2.1 fC.2.2.2.1 fC.2.2.2.2.1 fC.2.2.2.2.2
 exact⟨.ref D,upd H' D (.lst acc),J3.adopt fD ⟨hlen,its,nD,va,(sb.2 D hDC).trans gD⟩,rfl,z D fD.1⟩
theorem iJ{i:Nat}{y:Str}{py spos:Pos}(hc:X.calm=true)(hN:X.N.Nodup)(hi':X.N[i]? = some y)(hy:Loc X.env.scope y)(S:bQ X.env.scope X.N scope x bY)(hi:PI X (.Name x px) iter wi)
  (JB:∀ C s H ex pn E,Ou (nj X (x :: bY.map (·.2)) scope C s H ex pn E) ifs tc) (helt:∀ C s H ex pn E,PE (nj X (x :: bY.map (·.2)) scope C s H ex pn E) elt te)
  (hsw:swapsWith (.ListComp elt [⟨.Name x px,iter,ifs,0⟩] scope pos) (some (.Name y py)) spos.line X.env=pure true:=by rfl) (hs:∀ x,foldedSetIterable iter X.env x=pure x:=by intro _;rfl)
  (hfn:X.fn y=true ∨ X.env.scope.names.lookup y=some .local:=by first | exact .inl rfl | exact .inr rfl | assumption):PS X (.Assign [.Name y py] (.ListComp elt [⟨.Name x px,iter,ifs,0⟩] scope pos) spos) (Uh (Wl wi bY tc te) (Ks i)):=by
 intro pins s σ H D0 I h
 have hfree:∀ y∈scope.names,y.2 = .free->∃ c,X.env.cells.lookup y.1=some c:=fun y hy e=>I.ok.has y.1 (S.free y hy e)
 rw[exec_Assign_Name_used _ _ _ _ hsw]
 refine wpAny_bind (wpAny_standAt (wpAny_bind ?_))
 show wpAny _ _ (do let _ ← comprehension (.ListComp elt [⟨.Name x px,iter,ifs,0⟩] scope pos) scope X.env _ (newList []) false (eval iter X.env) (some (assign (.Name y py) X.env))) _ _ s
 refine wpAny_bind (wpAny_mono (wpAny_comprehension_free (use:=some (assign (.Name y py) X.env)) (Q:=fun _ s'=>SP X pins D0 .next s') rfl hs (xn hfree) S.kind S.qBG
  (cA (hi pins s σ H _ I h) fun v s1 h1=>cA h1 fun itv s2 h2=>?_)) (fun _ s' hq=>wpAny_pure (wpAny_pure hq)) fun _ _ e=>e)
 obtain⟨it,fp,tn,J,H2,e,I2,T,st2,f2,hW⟩:=h2
 subst e
 refine xj (RR:=fun acc C=>compPost (model X.prog X.w) X.A X.xe (some (assign (.Name y py) X.env)) (fun _ s'=>SP X pins D0 .next s') acc C) hc S I2 T st2 f2 JB helt hW ?_
 intro s' H' acc its D C m J2 plD va hlen fD fC hDC hn z
 obtain⟨nD,gD⟩:=plD
 have J3:Inv X pins σ (upd H' D (.lst acc)) s':=J2.adopt fD ⟨hlen,its,nD,va,gD⟩
 show wpAny _ _ (assign (.Name y py) X.env (.ref D)) _ _ s'
 refine wpAny_assign_Name (zg J3 hN hi' hy (show RelV (.ref D) (.ref D) from rfl) (fun s4 J4 ⟨a,sa,ha⟩=>?_) hfn)
 have hCa:C ≠ a:=by
  rcases ha with q | q
  ·rw[q];exact fC.2.1
  ·exact (fC.2.2.2.2.1 y a q).symm
 refine⟨m,hn.sameBut sa hCa,fun h'' sb=>?_⟩
 exact⟨_,_,J4.turned (t':=s4.toks) (fun b ob hb e=>(sb.2 b hb).trans e) (by rw[zQ (Ne.symm hDC)];exact fC.1) fC.2.1 fC.2.2.2.1 fC.2.2.2.2.1 fC.2.2.2.2.2,z D fD.1⟩
end
theorem vy{J:It}{cs:St}{tc:TT}{te:TE}{H1:Hp}{Z:List V->Hp->Prop}(n:Nat)(Pv:Nat->List V->Hp->Prop)(h0:Pv 0 [] H1)(hd:∀ acc H,Pv n acc H->J.stop n H/\Z acc H)
  (hs:∀ i acc H,i < n->Pv i acc H->J.go i H/\∀ x H',J.Ub i H x H'->tc (some x :: cs) H' fun b H2=>if b=true then te (some x :: cs) H2 fun v H3=>acc.length < sizeLine/\Pv (i+1) (acc++[v]) H3 else Pv (i+1) acc H2) :
  fP J cs tc te H1 Z:=by
 refine⟨fun i m acc H=>m=n - i/\i<=n/\Pv i acc H,⟨n,by simp,Nat.zero_le _,h0⟩,?_⟩
 rintro i m acc H ⟨rfl,hi,p⟩
 by_cases hlt:i < n
 ·obtain⟨g,y⟩:=hs i acc H hlt p
  exact .inr ⟨g,Pv (i+1),fun a H' q=>⟨n - (i+1),by lia,rfl,hlt,q⟩,y⟩
 ·have e:i=n:=by lia
  subst e
  exact .inl (hd acc H p)
theorem nu{lo:Int}{n:Nat}{cs:St}{tc:TT}{te:TE}{H1:Hp}{Z:List V->Hp->Prop}(Pv:Nat->List V->Hp->Prop)(h0:Pv 0 [] H1)
  (hs:∀ i acc H,i < n->Pv i acc H->tc (some (.int (lo+i)) :: cs) H fun b H2=>if b=true then te (some (.int (lo+i)) :: cs) H2 fun v H3=>acc.length < sizeLine/\Pv (i+1) (acc++[v]) H3 else Pv (i+1) acc H2)
  (hd:∀ acc H,Pv n acc H->Z acc H):fP (WX lo n) cs tc te H1 Z:=
 vy n Pv h0 (fun acc H p=>⟨bu _,hd acc H p⟩) fun i acc H hi p=>⟨hi,fun x H' y=>by
  obtain⟨e,y⟩:=y
  subst e y
  exact hs i acc _ hi p⟩
theorem yS{K:PySem.W.Frag}{a:Addr}{xs:List V}{cs:St}{tc:TT}{te:TE}{H1:Hp}{Z:List V->Hp->Prop}(Pv:Nat->List V->Hp->Prop)(h0:Pv 0 [] H1)(hl:∀ i acc H,Pv i acc H->aX K H a xs)
  (hs:∀ i x acc H,xs[i]? = some x->Pv i acc H->tc (some x :: cs) H fun b H2=>if b=true then te (some x :: cs) H2 fun v H3=>acc.length < sizeLine/\Pv (i+1) (acc++[v]) H3 else Pv (i+1) acc H2)
  (hd:∀ acc H,Pv xs.length acc H->Z acc H):fP (WY K a) cs tc te H1 Z:=
 vy xs.length Pv h0 (fun acc H p=>⟨⟨xs,hl _ _ _ p,Nat.le_refl _⟩,hd acc H p⟩) fun i acc H hi p=>⟨⟨xs,xs[i],hl _ _ _ p,by simp [hi]⟩,fun x H' y=>by
  obtain⟨e,y⟩:=y
  subst e
  exact hs i x acc _ (y xs (hl _ _ _ p)) p⟩
theorem mD{K:PySem.W.Frag}{a:Addr}{xs:List V}{cs:St}{tc:TT}{te:TE}{H1:Hp}{Z:List V->Hp->Prop}(Pv:Nat->List V->Hp->Prop)(h0:Pv 0 [] H1)(hl:∀ i acc H,Pv i acc H->aH K H a xs)
  (hs:∀ i x acc H,xs[i]? = some x->Pv i acc H->tc (some x :: cs) H fun b H2=>if b=true then te (some x :: cs) H2 fun v H3=>acc.length < sizeLine/\Pv (i+1) (acc++[v]) H3 else Pv (i+1) acc H2)
  (hd:∀ acc H,Pv xs.length acc H->Z acc H):fP (Xc K a) cs tc te H1 Z:=
 vy xs.length Pv h0 (fun acc H p=>⟨⟨xs,hl _ _ _ p,Nat.le_refl _⟩,hd acc H p⟩) fun i acc H hi p=>⟨⟨xs,xs[i],hl _ _ _ p,by simp [hi]⟩,fun x H' y=>by
  obtain⟨e,y⟩:=y
  subst e
  exact hs i x acc _ (y xs (hl _ _ _ p)) p⟩
section
variable{X:Cx}{tg:Expr}
end
section
variable{X:Cx}
theorem QR:SlR X (fun x lo hi H Q => ∃ z,x = .str z/\z.length<=sizeLine/\Q (.str (Txt.slice z lo hi)) H):=by
 intro pins s σ H x v vl vu lo hi sl Q I rx hs pl pu h
 obtain⟨z,rfl,hz,q⟩:=h
 obtain⟨t,rfl⟩:=rx
 have fin:∀(l u:Option (Int × Tok)),s.heap.IsSlice sl l u none->l.map (·.1)=lo->u.map (·.1)=hi->wpAny (model X.prog X.w) X.A (getItem (.str z t) (.ref sl)) (EP X pins σ Q) X.xe s:=fun l u h1 h2 h3=>by
  subst h2 h3
  exact wpAny_getItem_str_slice (l:=l) (u:=u) (st:=none) h1 rfl (post_val_or_str ⟨Nat.le_trans (Txt.slice_le z _ _) hz,fun t' k=>⟨.str _,H,I.tok _,⟨_,rfl⟩,q⟩⟩)
 refine⟨"str",_,F.slot_str_getitem.lookup,typeIs_str _ _ _,?_⟩
 cases pl with
 | none=>
  cases pu with
  | none=>exact fin none none hs rfl rfl
  | int j uj=>exact fin none (some (j,uj)) hs rfl rfl
 | int i ui=>
  cases pu with
  | none=>exact fin (some (i,ui)) none hs rfl rfl
  | int j uj=>exact fin (some (i,ui)) (some (j,uj)) hs rfl rfl
end
section
variable{X:Cx}{a b c:Expr}{ta tb:TE}{pos:Pos}
end
theorem mJ{α:Type}{xs:List α}{i:Int}(h0:0<=i)(h1:i < (xs.length:Int)):∃ v∈xs,oR xs i=some v:=by
 have hk:i.toNat < xs.length:=by lia
 have e:xs[i.toNat]? = some xs[i.toNat]:=cj hk
 refine⟨xs[i.toNat],fB hk,?_⟩
 have q:=yQ e
 rw[Int.toNat_of_nonneg h0]at q
 exact q
theorem Li{ns:List Int}{i:Int}(h0:0<=i)(h1:i < (ns.length:Int)):∃ v:Int,oR (ns.map V.int) i=some (.int v):=by
 obtain⟨v,hv,e⟩:=mJ (xs:=ns.map V.int) h0 (by rw[cM];exact h1)
 obtain⟨n,_,rfl⟩:=fO.mp hv
 exact⟨n,e⟩
theorem zI{n:Nat}(h:n<=1000):n<=sizeLine:=Nat.le_of_lt (zV h)
theorem YT(x:Int):Builtin.bitAnd x 2147483647=x % 2147483648:=PySem.W.kbt_mask x 31
theorem Wz(x:Int):0<=Builtin.bitAnd x 2147483647/\Builtin.bitAnd x 2147483647 < 2147483648:=by
 rw[YT]
 lia
section
variable{X:Cx}{st:Stmt}{rest:List Stmt}{t u:TS}
def qAW(t u:TS):TS:=fun D σ H => ∃ M:St->Hp->Prop,t { D with nx:=M } σ H/\∀ σ' H',M σ' H'->u D σ' H'
theorem zZ(h1:PS X st t)(h2:Gi X rest u):Gi X (st :: rest) (qAW t u):=by
 intro pins s σ H D I h
 obtain⟨M,h,hM⟩:=h
 refine wpAny_execs_cons (cA (h1 pins s σ H { D with nx:=M } I h) fun f s1 q=>?_)
 cases f with
 | next=>
  obtain⟨σ',H',I',q⟩:=q
  exact h2 pins s1 σ' H' D I' (hM σ' H' q)
 | ret v=>exact q
 | brk=>exact q
 | cont=>exact q
end
theorem zF{H:Hp}{p:Addr}(h:H p=none)(o:HO):aM H (upd H p o):=fun b u q=>by rw[zQ (zM q h)];exact q
def qAV(t:TE):TE:=fun σ H Q => ∃ M:VK,t σ H M/\∀ v H',M v H'->Q v H'
theorem rA{X:Cx}{e:Expr}{t:TE}(h:PE X e t):PE X e (qAV t):=by
 intro pins s σ H Q I ⟨M,hM,hQ⟩
 exact cA (h pins s σ H M I hM) fun u s' ⟨v,H',I',r,m⟩=>⟨v,H',I',r,hQ v H' m⟩
def qAU(t:TT):TT:=fun σ H Q => ∃ M:Bool->Hp->Prop,t σ H M/\∀ b H',M b H'->Q b H'
theorem bW{X:Cx}{e:Expr}{t:TT}(h:PT X e t):PT X e (qAU t):=by
 intro pins s σ H Q I ⟨M,hM,hQ⟩
 exact cA (h pins s σ H M I hM) fun b s' ⟨H',I',m⟩=>⟨H',I',hQ b H' m⟩
end L2
namespace HT
open PySem PySem.Spec PyProof.Rows
section
variable{prog:Program}{w:World}{A:Around}{E:Value->Shared->Prop}{s:Shared}
end
end HT
namespace L2
open PySem PySem.Spec PyProof.Rows
section
variable{X:Cx}
end
section
variable{κ:Type} [DecidableEq κ]
def iT(kvs:List (κ × V))(k:κ):Option V:=(kvs.find? fun kv=>decide (kv.1=k)).map (·.2)
def putK(kvs:List (κ × V))(k:κ)(v:V):List (κ × V):=
 if (kvs.any fun kv=>decide (kv.1=k))=true then kvs.map (fun kv=>if kv.1=k then (kv.1,v) else kv) else kvs++[(k,v)]
theorem dR{p:κ × V}{r:List (κ × V)}{k:κ}(e:p.1=k):iT (p :: r) k=some p.2:=by simp [iT,List.find?_cons,e]
theorem dU{p:κ × V}{r:List (κ × V)}{k:κ}(e:¬ p.1=k):iT (p :: r) k=iT r k:=by simp [iT,List.find?_cons,e]
theorem lE(k:κ):∀ kvs:List (κ × V),(kvs.any fun kv=>decide (kv.1=k))=(iT kvs k).isSome
 | []=>rfl
 | p :: r=>by
  rw[List.any_cons]
  by_cases e:p.1=k
  ·simp only[dR e,decide_eq_true e,Bool.true_or,Option.isSome_some]
  ·rw[dU e,decide_eq_false e,Bool.false_or];exact lE k r
theorem Dv(k j:κ)(y:V):∀ kvs:List (κ × V),iT (kvs.map fun kv=>if kv.1=k then (kv.1,y) else kv) j=(iT kvs j).map fun x=>if j=k then y else x
 | []=>rfl
 | p :: r=>by
  have ih:=Dv k j y r
  rw[List.map_cons]
  by_cases h:p.1=k
  ·rw[if_pos h]
   by_cases e:p.1=j
   ·rw[dR (p:=(p.1,y)) e,dR e,Option.map_some,if_pos (e.symm.trans h)]
   ·rw[dU (p:=(p.1,y)) e,dU e,ih]
  ·rw[if_neg h]
   by_cases e:p.1=j
   ·rw[dR (p:=p) e,dR e,Option.map_some,if_neg (fun z=>h (e.trans z))]
   ·rw[dU (p:=p) e,dU e,ih]
theorem zf(k j:κ)(y:V):∀ kvs:List (κ × V),iT kvs k=none->iT (kvs++[(k,y)]) j=if j=k then some y else iT kvs j
 | [],_=>by
  by_cases e:k=j
  ·rw[if_pos e.symm];exact dR (p:=(k,y)) e
  ·rw[if_neg (fun z=>e z.symm)];exact dU (p:=(k,y)) e
 | p :: r,hn=>by
  rw[List.cons_append]
  have hk:¬ p.1=k:=fun z=>by rw[dR z]at hn;cases hn
  rw[dU hk]at hn
  have ih:=zf k j y r hn
  by_cases e:p.1=j
  ·rw[dR e,dR e,if_neg (fun z=>hk (e.trans z))]
  ·rw[dU e,dU e,ih]
theorem Pu(kvs:List (κ × V))(k j:κ)(y:V):iT (putK kvs k y) j=if j=k then some y else iT kvs j:=by
 unfold putK
 by_cases a:(kvs.any fun kv=>decide (kv.1=k))=true
 ·rw[if_pos a,Dv]
  rw[lE]at a
  by_cases e:j=k
  ·obtain⟨x,hx⟩:=Option.isSome_iff_exists.mp a
   rw[if_pos e,e,hx,Option.map_some,if_pos rfl]
  ·rw[if_neg e]
   cases iT kvs j with
   | none=>rfl
   | some x=>rw[Option.map_some,if_neg e]
 ·rw[if_neg a]
  refine zf k j y kvs ?_
  rw[lE]at a
  cases q:iT kvs k with
  | none=>rfl
  | some x=>rw[q]at a;exact (a rfl).elim
theorem uo(kvs:List (κ × V))(k:κ)(v:V):(putK kvs k v).length<=kvs.length+1:=by
 unfold putK
 split
 ·rw[cM];lia
 ·rw[dJ,gC,List.length_nil];lia
theorem Qd{kvs:List (κ × V)}{k:κ}(v:V)(h:iT kvs k=none):putK kvs k v=kvs++[(k,v)]:=by
 unfold putK
 rw[lE,h]
 exact if_neg (by decide)
theorem qg.uP{o:Option V}{u:Option Value}(r:qg o u):o.isSome=u.isSome:=by
 cases o with
 | none=>cases u with
  | none=>rfl
  | some _=>exact (show False from r).elim
 | some _=>cases u with
  | none=>exact (show False from r).elim
  | some _=>rfl
theorem KV.val{kvs:List (κ × V)}{vs:List (κ × Value)}(r:KV kvs vs)(k:κ):qg (iT kvs k) (valueAt vs k):=by
 unfold KV at r
 induction r with
 | nil=>exact True.intro
 | @cons p q ps qs h t ih=>
  obtain⟨h1,h2⟩:=h
  by_cases e:p.1=k
  ·have e':q.1=k:=h1.symm.trans e
   have b:valueAt (q :: qs) k=some q.2:=by simp [valueAt,List.find?_cons,e']
   rw[dR e,b];exact h2
  ·have e':¬ q.1=k:=fun z=>e (h1.trans z)
   have b:valueAt (q :: qs) k=valueAt qs k:=by simp [valueAt,List.find?_cons,e']
   rw[dU e,b];exact ih
theorem KV.any{kvs:List (κ × V)}{vs:List (κ × Value)}(r:KV kvs vs)(k:κ):(kvs.any fun kv=>decide (kv.1=k))=vs.any fun kv=>decide (kv.1=k):=by
 unfold KV at r
 induction r with
 | nil=>rfl
 | cons h t ih=>rw[List.any_cons,List.any_cons,ih,h.1]
theorem KV.repl{kvs:List (κ × V)}{vs:List (κ × Value)}(r:KV kvs vs)(k:κ){y:V}{u:Value}(ry:RelV y u) :
  KV (kvs.map fun kv=>if kv.1=k then (kv.1,y) else kv) (vs.map fun kv=>if kv.1=k then (kv.1,u) else kv):=by
 unfold KV at r ⊢
 induction r with
 | nil=>exact .nil
 | @cons p q ps qs h t ih=>
  rw[List.map_cons,List.map_cons]
  refine .cons ?_ ih
  obtain⟨h1,h2⟩:=h
  by_cases e:p.1=k
  ·rw[if_pos e,if_pos (h1.symm.trans e)];exact⟨h1,ry⟩
  ·rw[if_neg e,if_neg (fun z=>e (h1.trans z))];exact⟨h1,h2⟩
theorem KV.put{kvs:List (κ × V)}{vs:List (κ × Value)}(r:KV kvs vs)(k:κ){y:V}{u:Value}(ry:RelV y u):KV (putK kvs k y) (stored vs k u):=by
 unfold putK stored
 rw[r.any k]
 by_cases e:(vs.any fun kv=>decide (kv.1=k))=true
 ·rw[if_pos e,if_pos e];exact r.repl k ry
 ·rw[if_neg e,if_neg e];exact Paired.snoc r ⟨rfl,ry⟩
theorem KV.keys{kvs:List (κ × V)}{vs:List (κ × Value)}(r:KV kvs vs):kvs.map (·.1)=vs.map (·.1):=by
 unfold KV at r
 induction r with
 | nil=>rfl
 | cons h t ih=>rw[List.map_cons,List.map_cons,ih,h.1]
theorem KV.length{kvs:List (κ × V)}{vs:List (κ × Value)}(r:KV kvs vs):kvs.length=vs.length:=Paired.length r
end
theorem Km{P:Program}{w:World}{k:Key}{u:Value}(r:RelV (kV k) u):(cR P w).is k u=true:=by
 cases k with
 | inl i=>obtain⟨t,e⟩:=(show ∃ t,u=Value.int i t from r);subst e;exact Ff P w i t
 | inr x=>obtain⟨t,e⟩:=(show ∃ t,u=Value.str x t from r);subst e;exact Fe P w x t
theorem Az{P:Program}{w:World}:∀ {ks:List Key} {us:List Value},Vals (ks.map kV) us->ItemsAre (cR P w) ks us
 | [],_,r=>by rw[List.map_nil]at r;cases r;exact .nil
 | k :: ks,_,r=>by
  rw[List.map_cons]at r
  cases r with
  | cons h t=>exact .cons (Km h) (Az t)
abbrev KT(H:Hp):List (List Key × V)->List (List Key × Addr × Value)->Prop:=Paired fun p q=>p.1=q.1/\H q.2.1=some (.tup (p.1.map kV))/\RelV p.2 q.2.2
theorem KT.val{H:Hp}{kvs:List (List Key × V)}{xs:List (List Key × Addr × Value)}(r:KT H kvs xs)(k:List Key):qg (iT kvs k) ((atKey xs k).map (·.2)):=by
 induction r with
 | nil=>exact True.intro
 | @cons p q ps qs h t ih=>
  obtain⟨h1,_,h2⟩:=h
  by_cases e:p.1=k
  ·have e':q.1=k:=h1.symm.trans e
   have b:atKey (q :: qs) k=some q.2:=by simp [atKey,List.find?_cons,e']
   rw[dR e,b];exact h2
  ·have e':¬ q.1=k:=fun z=>e (h1.trans z)
   have b:atKey (q :: qs) k=atKey qs k:=by simp [atKey,List.find?_cons,e']
   rw[dU e,b];exact ih
theorem KT.repl{H:Hp}{kvs:List (List Key × V)}{xs:List (List Key × Addr × Value)}(r:KT H kvs xs)(k:List Key){y:V}{u:Value}(ry:RelV y u) :
  KT H (kvs.map fun kv=>if kv.1=k then (kv.1,y) else kv) (xs.map (putAt k u)):=by
 induction r with
 | nil=>exact .nil
 | @cons p q ps qs h t ih=>
  rw[List.map_cons,List.map_cons]
  refine .cons ?_ ih
  obtain⟨h1,h2,h3⟩:=h
  unfold putAt
  by_cases e:p.1=k
  ·rw[if_pos e,if_pos (h1.symm.trans e)];exact⟨h1,h2,ry⟩
  ·rw[if_neg e,if_neg (fun z=>e (h1.trans z))];exact⟨h1,h2,h3⟩
theorem KT.put{H:Hp}{kvs:List (List Key × V)}{xs:List (List Key × Addr × Value)}(r:KT H kvs xs)(k:List Key){b:Addr}{y:V}{u:Value}(hb:H b=some (.tup (k.map kV)))(ry:RelV y u) :
  KT H (putK kvs k y) (storedH xs k b u):=by
 have e:(kvs.any fun kv=>decide (kv.1=k))=(atKey xs k).isSome:=by
  rw[lE,(r.val k).uP,Option.isSome_map]
 unfold putK storedH
 rw[e]
 by_cases q:(atKey xs k).isSome=true
 ·rw[if_pos q,if_pos q];exact r.repl k ry
 ·rw[if_neg q,if_neg q];exact Paired.snoc r ⟨rfl,hb,ry⟩
theorem KT.keeps{H H':Hp}{kvs:List (List Key × V)}{xs:List (List Key × Addr × Value)}(r:KT H kvs xs)(ht:∀ b ys,H b=some (.tup ys)->H' b=some (.tup ys)):KT H' kvs xs:=
 Paired.YW r fun _ _ z=>⟨z.1,ht _ _ z.2.1,z.2.2⟩
section
variable{P:Program}{w:World}{H:Hp}{h:Heap}{a:Addr}
theorem Wn{u:HO}(ok:qW P w H h)(e:Rd H a u):cV P w H h a u:=e.ok ok
theorem LK{kvs:List (Key × V)}(ok:qW P w H h)(e:Rd H a (.dK kvs)):kvs.length<=sizeLine/\(a == sysModules)=false/\∃ vs,KV kvs vs/\h.DictOf (cR P w) a vs:=
 show cV P w H h a (.dK kvs) from Wn ok e
theorem XS{kvs:List (Key × V)}(ok:qW P w H h)(e:H a=some (.dK kvs)):kvs.length<=sizeLine/\(a == sysModules)=false/\∃ vs,KV kvs vs/\h.DictOf (cR P w) a vs:=LK ok (.inl e)
theorem Ci{ks:List Key}(ok:qW P w H h)(e:H a=some (.tup (ks.map kV))):(tupleKind (cR P w)).is h ks a:=by
 obtain⟨_,its,r,o,h1,h2,n,h3⟩:=(show cV P w H h a (.tup (ks.map kV)) from ok a _ e)
 exact⟨o,its.toArray,n,h1,h2,h3,by simpa using Az r⟩
theorem LC{kvs:List (List Key × V)}(ok:qW P w H h)(e:Rd H a (.dT kvs)):kvs.length<=sizeLine/\(a == sysModules)=false ∧
  ∃ xs,KT H kvs xs/\h.DictOfH (tupleKind (cR P w)) a xs:=by
 obtain⟨z,y,xs,r,o,es,ep,h1,h2,h3,h4,h5⟩:=(show cV P w H h a (.dT kvs) from Wn ok e)
 refine⟨z,y,xs,r,o,es,ep,h1,h2,h3,h4,fun x hx=>?_,h5⟩
 have all:∀ {l:List (List Key × V)} {m:List (List Key × Addr × Value)},KT H l m->∀ x∈m,(tupleKind (cR P w)).is h x.1 x.2.1:=by
  intro l m q
  induction q with
  | nil=>intro x hx;exact nomatch hx
  | @cons p q ps qs hq t ih=>
   intro x hx
   rcases dG.mp hx with e | hx
   ·subst e
    exact Ci ok (by rw[<-hq.1];exact hq.2.1)
   ·exact ih x hx
 exact all r x hx
theorem qC9{kvs:List (List Key × V)}(ok:qW P w H h)(e:H a=some (.dT kvs)):kvs.length<=sizeLine/\(a == sysModules)=false ∧
  ∃ xs,KT H kvs xs/\h.DictOfH (tupleKind (cR P w)) a xs:=LC ok (.inl e)
end
def Dk(H:Hp)(a:Addr)(y:V)(r:Option V):Prop:=
 (∃ kvs k,Rd H a (.dK kvs)/\y=kV k/\r=iT kvs k) ∨ ∃ kvs k b,Rd H a (.dT kvs)/\y = .ref b/\H b=some (.tup (k.map kV))/\r=iT kvs k
def U5(H:Hp)(a:Addr)(y v:V)(H':Hp):Prop:=
 (∃ kvs k,H a=some (.dK kvs)/\y=kV k/\kvs.length < sizeLine/\H'=upd H a (.dK (putK kvs k v))) ∨
 ∃ kvs k b,H a=some (.dT kvs)/\y = .ref b/\H b=some (.tup (k.map kV))/\kvs.length < sizeLine/\H'=upd H a (.dT (putK kvs k v))
theorem Dk.k{H:Hp}{a:Addr}{kvs:List (Key × V)}{k:Key}(e:H a=some (.dK kvs)):Dk H a (kV k) (iT kvs k):=.inl ⟨kvs,k,.inl e,rfl,rfl⟩
theorem U5.k{H:Hp}{a:Addr}{kvs:List (Key × V)}{k:Key}{v:V}(e:H a=some (.dK kvs))(hl:kvs.length < sizeLine):U5 H a (kV k) v (upd H a (.dK (putK kvs k v))):=.inl ⟨kvs,k,e,rfl,hl,rfl⟩
section
variable{X:Cx}{pins:List (Addr × Obj)}{σ:St}{H:Hp}{s:Shared}{a:Addr}{y v:V}{u r:Value}{o:Option V}{A:Around}{E:Value->Shared->Prop}
theorem Inv.big(I:Inv X pins σ H s):sysModules < s.heap.objs.size:=by
 have h:mainGlobals < s.heap.objs.size:=(I.mod.glob.keeps I.bk).lt
 exact Nat.lt_trans (by decide) h
theorem OJ{Q:Value->Shared->Prop}(hu:A.units+1 < cLine)(I:Inv X pins σ H s)(g:Dk H a y (some v))(ry:RelV y u)(h:∀ w' s',Inv X pins σ H s'->RelV v w'->Q w' s') :
  wpAny (model X.prog X.w) A (getItem (.ref a) u) Q E s:=by
 rcases g with ⟨kvs,k,e,ey,l⟩ | ⟨kvs,k,b,e,ey,eb,l⟩
 ·subst ey
  obtain⟨z,hd,vs,rel,dd⟩:=LK I.hok e
  obtain⟨w',hw,QX⟩:=qg.some_of (v:=v) (o:=valueAt vs k) (by rw[l];exact rel.val k)
  exact wpAny_getItem_of (Km ry) dd.mapOf hw (h w' _ (I.tok _) QX)
 ·subst ey
  cases (show u=Value.ref b from ry)
  obtain⟨z,hd,xs,rel,dd⟩:=LC I.hok e
  obtain⟨w',hw,QX⟩:=qg.some_of (v:=v) (o:=(atKey xs k).map (·.2)) (by rw[l];exact rel.val k)
  obtain⟨p,hp,hp2⟩:=Option.map_eq_some_iff.mp hw
  refine wpAny_getItem_heap (tupleKind_room_in1 hu) (Ci I.hok eb) dd hp ?_
  rw[hp2]
  exact h w' _ (I.tok _) QX
theorem Vz{Q:Value->Shared->Prop}(hu:A.units+1 < cLine)(I:Inv X pins σ H s)(g:Dk H a y o)(ry:RelV y u)(h:∀ s',Inv X pins σ H s'->Q (.bool (!o.isSome)) s') :
  wpAny (model X.prog X.w) A (compareOp .NotIn u (.ref a)) Q E s:=by
 rcases g with ⟨kvs,k,e,ey,l⟩ | ⟨kvs,k,b,e,ey,eb,l⟩
 ·subst ey
  obtain⟨z,hd,vs,rel,dd⟩:=LK I.hok e
  refine wpAny_notIn_of (Km ry) hd dd.mapOf ?_
  rw[<-(rel.val k).uP,<-l]
  exact h _ (I.tok _)
 ·subst ey
  cases (show u=Value.ref b from ry)
  obtain⟨z,hd,xs,rel,dd⟩:=LC I.hok e
  refine wpAny_notIn_heap (tupleKind_room_in1 hu) (Ci I.hok eb) hd dd ?_
  have q:=(rel.val k).uP
  rw[Option.isSome_map]at q
  rw[<-q,<-l]
  exact h _ (I.tok _)
theorem Lb{h':Heap}{t':Nat}{ob:HO}(I:Inv X pins σ H s)(mu:Mut (H a))(hs:Heap.SameBut a s.heap h')(he:∃ q,h'.get? a=some q)(new:cV X.prog X.w (upd H a ob) h' a ob) :
  Inv X pins σ (upd H a ob) { s with heap:=h',toks:=t' }:=
 I.write (x:=a) (e:=a) mu (.inl rfl) (fun b q hb z=>(hs.2 b hb).trans z) he new
theorem qA5{P:Program}{w:World}{H':Hp}{h':Heap}{kvs:List (Key × V)}{vs:List (Key × Value)}(z:kvs.length<=sizeLine)(hd:(a == sysModules)=false)(rel:KV kvs vs)(dd:h'.DictOf (cR P w) a vs) :
  cV P w H' h' a (.dK kvs):=⟨z,hd,vs,rel,dd⟩
theorem OD{H':Hp}{Q:Unit->Shared->Prop}(hu:A.units+1 < cLine)(I:Inv X pins σ H s)(g:U5 H a y v H')(ry:RelV y u)(rv:RelV v r)(h:∀ s',Inv X pins σ H' s'->Q () s') :
  wpAny (model X.prog X.w) A (setItem (.ref a) u r) Q E s:=by
 rcases g with ⟨kvs,k,e,ey,l,eH⟩ | ⟨kvs,k,b,e,ey,eb,l,eH⟩
 ·subst ey eH
  obtain⟨z,hd,vs,rel,dd⟩:=XS I.hok e
  have hz:vs.length<=sizeLine:=by rw[<-rel.length];exact z
  have hl:(putK kvs k v).length<=sizeLine:=by have:=uo kvs k v;lia
  refine wpAny_setItem_pairs (hsz:=hz) (Km ry) dd fun h' dd' hs=>h _ ?_
  have he:∃ q,h'.get? a=some q:=let ⟨q,_,_,hq,_⟩:=dd';⟨q,hq⟩
  exact Lb I (by rw[e];exact True.intro) hs he (qA5 hl hd (rel.put k rv) dd')
 ·subst ey eH
  cases (show u=Value.ref b from ry)
  obtain⟨z,hd,xs,rel,dd⟩:=qC9 I.hok e
  have hz:xs.length<=sizeLine:=by rw[<-Paired.length rel];exact z
  have hl:(putK kvs k v).length<=sizeLine:=by have:=uo kvs k v;lia
  refine wpAny_setItem_heap (hsz:=hz) (tupleKind_room_in1 hu) (Ci I.hok eb) dd fun h' dd' hs=>h _ ?_
  obtain⟨q,es,ep,hq,h2,h3,h4,_,h5⟩:=dd'
  refine Lb I (by rw[e];exact True.intro) hs ⟨q,hq⟩ ⟨hl,hd,_,(rel.put k eb rv).keeps fun c ys ec=>?_,q,es,ep,hq,h2,h3,h4,h5⟩
  rw[zQ (cC ec e (fun z=>nomatch z))]
  exact ec
end
section
variable{X:Cx}{pins:List (Addr × Obj)}{σ:St}{H:Hp}{s:Shared}{a:Addr}{kvs:List (Key × V)}{k:Key}{u:Value}{A:Around}{E:Value->Shared->Prop}
end
def qCD(i:Expr):Prop:=∀ ov iv,subscripted i false ov iv=operate [ov,iv] (getItem ov iv)
theorem Ui{prog:Program}{w:World}{A:Around}{E:Value->Shared->Prop}{s:Shared}{env:Env}{value slice:Expr}{pos:Pos}{T id:String}{Q:Value->Shared->Prop}
  (hl:typeLookup (.type T) "__getitem__" = pure (some (.builtin id))) (hs:qCD slice)
  (h:wpAny (model prog w) A (eval value env) (fun o s₁=>wpAny (model prog w) A (eval slice env) (fun i s₂=>s₂.TypeIs o T/\wpAny (model prog w) A (getItem o i) Q E s₂) E s₁) E s) :
  wpAny (model prog w) A (eval (.Subscript value slice pos) env) Q E s:=by
 refine Subscript_ (wpAny_mono h (fun o s₁ h₁=>wpAny_mono h₁ (fun i s₂ h₂=>?_) fun _ _ x=>x) fun _ _ x=>x)
 obtain⟨hT,h₂⟩:=h₂
 unfold subscriptTail
 refine wpAny_bind ?_
 rw[getitemInPython_of_ne hT.not_modules]
 refine wpAny_bind (wpAny_specialOf hT hl ?_)
 have fin:wpAny (model prog w) A (subscripted slice false o i) (fun r s₃=>wpAny (model prog w) A (letTemporaryGo value o r >>= fun _=>pure r) Q E s₃) E s₂:=by
  rw[hs o i]
  exact wpAny_operating (wpAny_mono h₂ (fun r s₃ h₃=>wpAny_bind (wpAny_letTemporaryGo (wpAny_pure h₃))) fun _ _ x=>x)
 first
  | exact wpAny_pure (wpAny_bind fin)
  | exact wpAny_bind (wpAny_pure (wpAny_bind fin))
  | exact wpAny_bind fin
theorem GQ{X:Cx}{pins:List (Addr × Obj)}{σ:St}{H:Hp}{s:Shared}{a:Addr}{y:V}{o:Option V}(I:Inv X pins σ H s)(g:Dk H a y o):s.TypeIs (.ref a) "dict" := by
 rcases g with ⟨kvs,k,e,_,_⟩ | ⟨kvs,k,b,e,_,_,_⟩
 ·obtain⟨_,_,vs,_,dd⟩:=LK I.hok e
  exact dd.typeIs
 ·obtain⟨_,_,xs,_,dd⟩:=LC I.hok e
  exact dd.typeIs
def qAT(td ty:TE):TE:=fun σ H Q=>td σ H fun x H1=>ty σ H1 fun y H2 => ∃ a v,x = .ref a/\Dk H2 a y (some v)/\Q v H2
def Ug(ty td:TE):TE:=fun σ H Q=>ty σ H fun y H1=>td σ H1 fun x H2 => ∃ a o,x = .ref a/\Dk H2 a y o/\Q (.bl (!o.isSome)) H2
def qB5(td ty tv:TE):TS:=fun D σ H=>tv σ H fun v H1=>td σ H1 fun x H2=>ty σ H2 fun y H3 => ∃ a H4,x = .ref a/\U5 H3 a y v H4/\D.nx σ H4
section
variable{X:Cx}{o i e value:Expr}{pos pos' tpos:Pos}{td ty tv:TE}
theorem V4(hu:X.A.units+1 < cLine)(ho:PE X o td)(hi:PE X i ty)(hs:qCD i):PE X (.Subscript o i pos) (qAT td ty):=by
 intro pins s σ H Q I h
 refine Ui PySem.F.slot_dict_getitem.lookup hs (cA (ho pins s σ H _ I h) fun u s1 ⟨x,H1,I1,rx,q1⟩=>cA (hi pins s1 σ H1 _ I1 q1) fun iv s2 ⟨y,H2,I2,ry,a,v,ex,g,q2⟩=>?_)
 subst ex
 obtain rfl:u=Value.ref a:=rx
 exact⟨GQ I2 g,OJ hu I2 g ry fun w' s3 I3 QX=>⟨v,H2,I3,QX,q2⟩⟩
theorem MP(hu:X.A.units+1 < cLine)(hi:PE X i ty)(ho:PE X o td):PC X .NotIn i o (Ug ty td):=by
 intro pins s σ H Q I h
 refine cA (hi pins s σ H _ I h) fun iv s1 ⟨y,H1,I1,ry,q1⟩=>cA (ho pins s1 σ H1 _ I1 q1) fun u s2 ⟨x,H2,I2,rx,a,ov,ex,g,q2⟩=>?_
 subst ex
 obtain rfl:u=Value.ref a:=rx
 exact Vz hu I2 g ry fun s3 I3=>⟨.bl (!ov.isSome),H2,I3,rfl,q2⟩
theorem Uz(hu:X.A.units+1 < cLine)(ho:PE X o td)(hi:PE X i ty)(hv:PE X value tv)(hs:swapsWith value (some (.Subscript o i pos')) pos.line X.env=pure false) :
  PS X (.Assign [.Subscript o i pos'] value pos) (qB5 td ty tv):=by
 intro pins s σ H D I h
 refine wpAny_Assign_Subscript (cA (hv pins s σ H _ I h) fun r s1 ⟨v,H1,I1,rv,q1⟩=>cA (ho pins s1 σ H1 _ I1 q1) fun u s2 ⟨x,H2,I2,rx,q2⟩=>cA (hi pins s2 σ H2 _ I2 q2) fun iv s3 ⟨y,H3,I3,ry,a,H4,ex,g,q3⟩=>?_) hs
 subst ex
 obtain rfl:u=Value.ref a:=rx
 exact OD hu I3 g ry rv fun s4 I4=>⟨σ,H4,I4,q3⟩
end
theorem T5{P:Program}{w:World}{H:Hp}(h:Heap)(hb:sysModules < h.objs.size):cV P w H (h.push { cls:=.type "dict",data:=.dict #[] }) h.objs.size (.dK []):=
 ⟨Nat.zero_le _,beq_eq_false_iff_ne.mpr (Ne.symm (Nat.ne_of_lt hb)),[],.nil,Heap.DictOf.new h⟩
def Xi:TE:=fun _ H Q => ∀ p,H p=none->Q (.ref p) (upd H p (.dK []))
section
variable{X:Cx}{pos:Pos}
theorem Qj:PE X (.Dict [] [] pos) Xi:=fun pins s σ H Q I h=>
 wpAny_Dict_empty ⟨.ref s.heap.objs.size,_,I.laid (a:=s.heap.objs.size) (o:=.dK []) (t':=s.toks) (fun _ _ q=>Heap.get?_push_of_some _ q) (bu _) (T5 s.heap I.big),rfl,h _ (I.hok.fresh (bu _))⟩
end
structure M1(X:Cx)(o:Expr)(m:Str)(apos:Pos)(e:Expr)(cpos:Pos):Prop where
 base:attributeBase o m X.env (eval o X.env)=eval o X.env
 few:((backTo cpos (starEach [e] X.env)).all (fun x => !x.1) && (backToKw cpos (keywordEach [] X.env)).all (fun x=>x.1.isSome)
  && decide (([e]:List Expr).length+([]:List Keyword).length+(if ([]:List Keyword).isEmpty then 0 else 1) < 30))=true
 line:(apos.endLine == cpos.line)=true
 trees:backTo cpos (starEach [e] X.env)=[(false,eval e X.env)]
structure M2(X:Cx)(o:Expr)(m:Str)(apos:Pos)(e f:Expr)(cpos:Pos):Prop where
 base:attributeBase o m X.env (eval o X.env)=eval o X.env
 few:((backTo cpos (starEach [e,f] X.env)).all (fun x => !x.1) && (backToKw cpos (keywordEach [] X.env)).all (fun x=>x.1.isSome)
  && decide (([e,f]:List Expr).length+([]:List Keyword).length+(if ([]:List Keyword).isEmpty then 0 else 1) < 30))=true
 line:(apos.endLine == cpos.line)=true
 trees:backTo cpos (starEach [e,f] X.env)=[(false,eval e X.env),(false,eval f X.env)]
section
variable{X:Cx}{pins:List (Addr × Obj)}{σ:St}{H:Hp}{s:Shared}{a:Addr}{y d:V}{u r:Value}{o:Option V}{A:Around}{E:Value->Shared->Prop}
end
section
variable{X:Cx}{o e f:Expr}{apos cpos:Pos}{td ty tx:TE}
end
section
variable{X:Cx}{pins:List (Addr × Obj)}{σ:St}{H:Hp}{s:Shared}{a:Addr}{kvs:List (Key × V)}{A:Around}{E:Value->Shared->Prop}
end
section
variable{X:Cx}{pins:List (Addr × Obj)}{σ:St}{H:Hp}{s:Shared}{a:Addr}{y:V}{u:Value}{A:Around}{E:Value->Shared->Prop}
end
end L2
namespace So
open PySem PyProof.Rows
set_option maxRecDepth 100000
section
variable{prog:Program}{w:World}{A:Around}{E:Value->Shared->Prop}{s:Shared}
theorem HN{T:String}{o:Obj}{p:Addr}{its:List Value}{ns:List Int}{n:Nat}{Q:Value->Shared->Prop}(hT:T = "list" ∨ T = "tuple")(ho:s.heap.get? p=some o)(hc:o.cls = .type T)(hd:o.data = .seq its.toArray n)(hI:IntsAre its ns)(h64:its.length < 64)
  (fin:∀(h1 h':Heap)(q:Addr)(out:Array Value)(rs:List Int)(e:Nat),IntsAre out.toList rs->rs.Perm ns->rs.Pairwise (· <= ·)->h1.objs.size<=q->h'.get? q=some (seqObj "list" out e)->(∀ b o,s.heap.get? b=some o->h1.get? b=some o)->(∀ b o,h1.get? b=some o->h'.get? b=some o)->Q (.ref q) { s with heap:=h' }) :
  wpAny (model prog w) A (call (.builtin "sorted") [.ref p]) Q E s:=by
 refine Calls.call_function_entry kind_sorted plain_sorted entry_sorted (args_sorted1 _) ?_
 unfold Builtin.«sorted»
 refine wpAny_bind (m:=checkCount "sorted" 1 1 _) (wpAny_pure ?_)
 refine wpAny_bind (wpAny_collect_seq p hT ho hc hd (fun h1 k1=>?_) (by rw[zc,sizeLine_eq];lia))
 refine wpAny_bind (wpAny_newList ?_ (by show its.length<=_;rw[sizeLine_eq];lia))
 have g1:(h1.push (seqObj "list" its.toArray 0)).get? h1.objs.size=some (seqObj "list" its.toArray 0):=Heap.get?_push_size _ rfl
 refine wpAny_bind (wpAny_holding (wpAny_call_entry slot_list_sort ⟨_,g1,rfl⟩ entry_list_sort (list_sort_tree (s:={ s with heap:=h1.push (seqObj "list" its.toArray 0) }) g1 hI h64 fun out ns' a1 a2 a3=>⟨_,rfl,?_⟩) (args_list_sort _)))
 obtain⟨e,he⟩:=sortedHeap_at (out:=out) g1
 refine wpAny_pure ⟨_,rfl,fin h1 _ h1.objs.size out ns' e a1 a2 a3 (bu _) he k1 fun b ob hb=>?_⟩
 have lb:b < h1.objs.size:=Heap.lt_size hb
 rw[sortedHeap_old (Nat.ne_of_lt lb) (by rw[Heap.size_push];exact Nat.lt_succ_of_lt lb)]
 exact Heap.get?_push_of_some _ hb
theorem wO{T:String}{o:Obj}{p:Addr}{its:List Value}{ns:List Int}{n:Nat}{Q:Value->Shared->Prop}(hT:T = "list" ∨ T = "tuple")(ho:s.heap.get? p=some o)(hc:o.cls = .type T)(hd:o.data = .seq its.toArray n)(hI:IntsAre its ns)(h64:its.length < 64)
  (fin:∀(h1 h':Heap)(q:Addr)(out:Array Value)(rs:List Int)(e:Nat),IntsAre out.toList rs->rs.Perm ns->rs.Pairwise (· ≥ ·)->h1.objs.size<=q->h'.get? q=some (seqObj "list" out e)->(∀ b o,s.heap.get? b=some o->h1.get? b=some o)->(∀ b o,h1.get? b=some o->h'.get? b=some o)->Q (.ref q) { s with heap:=h' }) :
  wpAny (model prog w) A (call (.builtin "sorted") [.ref p] [(Str.ofString "reverse",.bool true)]) Q E s:=by
 refine call_function_entry_kw kind_sorted plain_sorted entry_sorted (args_sorted_rev _ _) ?_
 unfold Builtin.«sorted»
 refine wpAny_bind (m:=checkCount "sorted" 1 1 _) (wpAny_pure ?_)
 refine wpAny_bind (wpAny_collect_seq p hT ho hc hd (fun h1 k1=>?_) (by rw[zc,sizeLine_eq];lia))
 refine wpAny_bind (wpAny_newList ?_ (by show its.length<=_;rw[sizeLine_eq];lia))
 have g1:(h1.push (seqObj "list" its.toArray 0)).get? h1.objs.size=some (seqObj "list" its.toArray 0):=Heap.get?_push_size _ rfl
 refine wpAny_bind (wpAny_holding (wpAny_call_entry_kw slot_list_sort ⟨_,g1,rfl⟩ entry_list_sort (list_sort_tree_rev (b:=true) (s:={ s with heap:=h1.push (seqObj "list" its.toArray 0) }) g1 hI h64 fun out ns' a1 a2 a3=>⟨_,rfl,?_⟩) (args_list_sort_rev _ _)))
 obtain⟨e,he⟩:=sortedHeap_at (out:=out) g1
 refine wpAny_pure ⟨_,rfl,fin h1 _ h1.objs.size out ns' e a1 a2 a3 (bu _) he k1 fun b ob hb=>?_⟩
 have lb:b < h1.objs.size:=Heap.lt_size hb
 rw[sortedHeap_old (Nat.ne_of_lt lb) (by rw[Heap.size_push];exact Nat.lt_succ_of_lt lb)]
 exact Heap.get?_push_of_some _ hb
end
end So
namespace L2
open PySem PySem.Spec PyProof.Rows
section
variable{X:Cx}
def KR(K:PySem.W.Frag)(le:Int->Int->Prop):List V->Hp->VK->Prop:=fun xs H Q => ∃(p:Addr)(ns:List Int),xs=[.ref p]/\(aX K H p (ns.map V.int) ∨ aH K H p (ns.map V.int))/\ns.length < 64/\∀(q:Addr)(rs:List Int),H q=none->rs.Perm ns->rs.Pairwise le->Q (.ref q) (upd H q (.lst (rs.map V.int)))
theorem Inv.QS{pins:List (Addr × Obj)}{σ:St}{H:Hp}{s:Shared}{p:Addr}{ns:List Int}(I:Inv X pins σ H s)(h:aX X.K H p (ns.map V.int) ∨ aH X.K H p (ns.map V.int)) :
  ∃(T:String)(o:Obj)(its:List Value)(n:Nat),(T = "list" ∨ T = "tuple")/\s.heap.get? p=some o/\o.cls = .type T/\o.data = .seq its.toArray n/\IntsAre its ns:=by
 rcases h with h | h
 ·obtain⟨its,r,pl,_⟩:=I.list h
  obtain⟨o,ho,hc,n,hd⟩:=pl.isList
  exact⟨"list",o,its,n,.inl rfl,ho,hc,hd,intsAre_of r⟩
 ·obtain⟨its,r,pl,_⟩:=I.tuple h
  obtain⟨o,ho,hc,n,hd⟩:=pl
  exact⟨"tuple",o,its,n,.inr rfl,ho,hc,hd,intsAre_of r⟩
theorem jz:mL X (.builtin "sorted") (KR X.K (· <= ·)):=by
 intro pins s σ H xs us Q I r h
 obtain⟨p,ns,rfl,hq,h64,q⟩:=h
 obtain⟨u,rfl,rx⟩:=vals1 r
 cases rx
 obtain⟨T,o,its,n,hT,ho,hc,hd,hI⟩:=I.QS hq
 have hl:=hI.length
 refine So.HN hT ho hc hd hI (by lia) fun h1 h' q' out rs e i1 i2 i3 i4 i5 i6 i7=>?_
 have J:Inv X pins σ H { s with heap:=h1 }:=I.kept (t':=s.toks) i6
 have lr:=i2.length_eq
 have i5':h'.get? q'=some { cls:=.type "list",data:=.seq out.toList.toArray e }:=by
  rw[i5]
 exact⟨.ref q',_,J.laid (h':=h') (t':=s.toks) (o:=.lst (rs.map V.int)) i7 i4 ⟨by rw[cM];exact zI (by lia),out.toList,e,lD i1,i5'⟩,rfl,q q' rs (J.hok.fresh i4) i2 i3⟩
def Xh(K:PySem.W.Frag)(t:TA):TE:=fun σ H Q=>t σ H fun vs H1=>KR K (· ≥ ·) vs H1 Q
theorem wZ{a:Expr}{t:TA}{p1 pos kp pd:Pos}{j:Nat}(hg:Gl X "sorted")(hm:X.mg "sorted" = none)(ha:PA X [a] t)(he:starEach [a] X.env=[(false,eval a X.env)]:=by rfl) :
  PE X (.Call (.Name "sorted" p1) [a] [⟨some "reverse",.Constant (.bool true) j pd,kp⟩] pos) (Xh X.K t):=by
 intro pins s σ H Q I h
 refine wpAny_Call_Name_kw (nU I hg hm PyProof.Rows.boot_sorted ?_)
 refine PyProof.Rows.callWith_kw (cA (ha pos pins s σ H _ I h) fun us s1 ⟨vs,H1,I1,r1,q1⟩=>?_) (by rw[he];rfl) (by rw[he];rfl) rfl rfl
 refine PyProof.Rows.kws_cons (wpAny_Constant_bool (PyProof.Rows.kws_nil ?_))
 obtain⟨p,ns,rfl,hq,h64,q⟩:=q1
 obtain⟨u,rfl,rx⟩:=vals1 r1
 cases rx
 obtain⟨T,o,its,n,hT,ho,hc,hd,hI⟩:=I1.QS hq
 have hl:=hI.length
 refine So.wO hT ho hc hd hI (by lia) fun h1 h' q' out rs e i1 i2 i3 i4 i5 i6 i7=>?_
 have J:Inv X pins σ H1 { s1 with heap:=h1 }:=I1.kept (t':=s1.toks) i6
 have lr:=i2.length_eq
 have i5':h'.get? q'=some { cls:=.type "list",data:=.seq out.toList.toArray e }:=by
  rw[i5]
 exact⟨.ref q',_,J.laid (h':=h') (t':=s1.toks) (o:=.lst (rs.map V.int)) i7 i4 ⟨by rw[cM];exact zI (by lia),out.toList,e,lD i1,i5'⟩,rfl,q q' rs (J.hok.fresh i4) i2 i3⟩
end
theorem cQ:∀(a b:List Nat),a.Pairwise (· < ·)->b.Pairwise (· < ·)->(∀ k,k∈a ↔ k∈b)->a=b
 | [],[],_,_,_=>rfl
 | [],y :: b,_,_,h=>absurd ((h y).mpr List.mem_cons_self) (by simp)
 | x :: a,[],_,_,h=>absurd ((h x).mp List.mem_cons_self) (by simp)
 | x :: a,y :: b,ha,hb,h=>by
  obtain⟨a1,a2⟩:=List.pairwise_cons.mp ha
  obtain⟨b1,b2⟩:=List.pairwise_cons.mp hb
  have e:x=y:=by
   have h1:=(h x).mp List.mem_cons_self
   have h2:=(h y).mpr List.mem_cons_self
   rcases dG.mp h1 with e | h1
   ·exact e
   ·rcases dG.mp h2 with e | h2
    ·exact e.symm
    ·have:=a1 y h2
     have:=b1 x h1
     lia
  subst e
  congr 1
  refine cQ a b a2 b2 fun k=>?_
  have hk:=h k
  rw[dG,dG]at hk
  constructor
  ·intro z
   rcases hk.mp (.inr z) with e | z'
   ·subst e
    have:=a1 k z
    lia
   ·exact z'
  ·intro z
   rcases hk.mpr (.inr z) with e | z'
   ·subst e
    have:=b1 k z
    lia
   ·exact z'
theorem Am:∀ os:List Nat,os.map (Int.toNat ∘ fun j:Nat=>(j:Int))=os
 | []=>rfl
 | x :: l=>by
  rw[List.map_cons,Am l]
  rfl
theorem Ae{rs:List Int}{os:List Nat}(h:rs.Perm (os.map fun j:Nat=>(j:Int))):∃ ms:List Nat,rs=ms.map (fun j:Nat=>(j:Int))/\ms.Perm os:=by
 refine⟨rs.map Int.toNat,?_,?_⟩
 ·rw[List.map_map]
  have:∀ x∈rs,((fun j:Nat=>(j:Int)) ∘ Int.toNat) x=x:=fun x hx=>by
   obtain⟨o,_,rfl⟩:=fO.mp (h.mem_iff.mp hx)
   rfl
  rw[List.map_congr_left this,List.map_id']
 ·have:=h.map Int.toNat
  rw[List.map_map]at this
  rw[Am]at this
  exact this
theorem cO(os:List Nat):(os.map fun j:Nat=>V.int (j:Int))=(os.map fun j:Nat=>(j:Int)).map V.int:=by
 rw[List.map_map]
 rfl
theorem jo{rs:List Int}{os:List Nat}(h:rs.Perm (os.map fun j:Nat=>(j:Int)))(hs:rs.Pairwise (· <= ·))(hn:os.Nodup):∃ ms:List Nat,rs=ms.map (fun j:Nat=>(j:Int))/\ms.Pairwise (· < ·)/\ms.Perm os:=by
 obtain⟨ms,rfl,hp⟩:=Ae h
 refine⟨ms,rfl,?_,hp⟩
 have nd:ms.Nodup:=hp.nodup_iff.mpr hn
 rw[List.pairwise_map]at hs
 exact (hs.and nd).imp fun ⟨h1,h2⟩=>by lia
theorem uZ{rs:List Int}{os:List Nat}(h:rs.Perm (os.map fun j:Nat=>(j:Int)))(hs:rs.Pairwise (· ≥ ·))(hn:os.Pairwise (· < ·)):rs=os.reverse.map (fun j:Nat=>(j:Int)):=by
 obtain⟨ms,rfl,hp⟩:=Ae h
 congr 1
 have nd:ms.Nodup:=hp.nodup_iff.mpr (hn.imp fun z=>Nat.ne_of_lt z)
 rw[List.pairwise_map]at hs
 have hm:ms.reverse.Pairwise (· < ·):=by
  rw[List.pairwise_reverse]
  exact (hs.and nd).imp fun ⟨h1,h2⟩=>by lia
 have e:=cQ ms.reverse os hm hn fun k=>by rw[List.mem_reverse];exact hp.mem_iff
 rw[<-e,List.reverse_reverse]
end L2
namespace So
open PySem PyProof.Rows
set_option maxRecDepth 100000
theorem Vt:typeLookup (.type "dict") "__len__" = pure (some (.builtin "dict.__len__")):=by rw[typeLookup_type,builtinLookup_eq_fast];kernel_rfl
theorem ux:∀ {vs:List Value} {ns:List Int},vs.length=ns.length->(∀(i:Nat)(n:Int),ns[i]? = some n->∃ t,vs[i]? = some (Value.int n t))->IntsAre vs ns
 | [],[],_,_=>.nil
 | [],n :: ns,h,_=>by simp at h
 | v :: vs,[],h,_=>by simp at h
 | v :: vs,n :: ns,h,k=>by
  obtain⟨t,ht⟩:=k 0 n rfl
  have e:v=Value.int n t:=by simpa using ht
  subst e
  exact .cons n t (ux (by simpa using h) fun i m hi=>by simpa using k (i+1) m (by simpa using hi))
section
variable{prog:Program}{w:World}{A:Around}{E:Value->Shared->Prop}{s:Shared}{a:Addr}
theorem GR{kvs:List (L2.Key × Value)}{ns:List Int}{Q:List Value->Shared->Prop}(hh:A.handled=none)(hd:(a == sysModules)=false)(hD:s.heap.DictOf (L2.cR prog w) a kvs)(hk:kvs.map (·.1)=ns.map Sum.inl)(hn:ns.length<=1000)
  (fin:∀(h':Heap)(vs:List Value)(tk:Nat),IntsAre vs ns->(∀ b o,s.heap.get? b=some o->h'.get? b=some o)->Q vs { s with heap:=h',toks:=tk }) :
  wpAny (model prog w) A (collect (.ref a)) Q E s:=by
 have lk:kvs.length=ns.length:=by
  have:=congrArg List.length hk
  simpa using this
 obtain⟨o,es,ep,ho,rest⟩:=hD
 have hc:=rest.1
 have la:a < s.heap.objs.size:=Heap.lt_size ho
 have hA:s.heap.DictAt (L2.cR prog w) a kvs ep:=⟨o,es,ho,rest⟩
 unfold collect;refine wpAny_bind (wpAny_runValue (codeAny_builtin F.entry_proto_collect ?_));rw[Around.under_plainId F.plain_proto_collect _]
 show wpAny _ A.in1 (newList [] >>= fun l=>again (.builtin "list.__iadd__" ⟨[l,.ref a],[]⟩)) _ _ s;refine wpAny_bind (wpAny_newObj_type ?_)
 refine wpAny_pure ⟨plainId_quiet F.plain_list_iadd _,codeAny_builtin F.entry_list_iadd ?_⟩;rw[Around.under_plainId F.plain_list_iadd _]
 have g0:(s.heap.push { cls:=.type "list",data:=.seq ([]:List Value).toArray }).get? s.heap.objs.size=some { cls:=.type "list",data:=.seq ([]:List Value).toArray }:=Heap.get?_push_size s.heap rfl
 have other:Builtin.List.listSameRef (.ref s.heap.objs.size) (.ref a)=false:=by simp [Builtin.List.listSameRef];exact Nat.ne_of_gt la
 have hA1:=hA.at' (h':=s.heap.push { cls:=.type "list",data:=.seq ([]:List Value).toArray }) fun o e=>Heap.get?_push_of_some _ e
 have ty1:Shared.TypeIs { s with heap:=s.heap.push { cls:=.type "list",data:=.seq ([]:List Value).toArray } } (.ref a) "dict" := hA1.dictOf.typeIs
 show wpAny _ A.in1 (Builtin.List.listExtendWith (.ref s.heap.objs.size) (.ref a) (.ref s.heap.objs.size)) _ _ _;unfold Builtin.List.listExtendWith
 refine wpAny_bind (wpAny_typeOf ty1 ?_);rw[if_neg (by rw[other];decide)]
 refine wpAny_bind (wpAny_pyIter_dict hd hA1 ?_)
 generalize eo:({ cls:=.type "dict_keyiterator",data:=.fields #[.ref a,.int 0 0,.int kvs.length 0,.int ep 0] }:Obj)=oi
 generalize eh:(s.heap.push { cls:=.type "list",data:=.seq ([]:List Value).toArray }).push oi=h2
 have sz1:(s.heap.push { cls:=.type "list",data:=.seq ([]:List Value).toArray }).objs.size=s.heap.objs.size+1:=Heap.size_push _ _
 have Rp:∀ b ob,(s.heap.push { cls:=.type "list",data:=.seq ([]:List Value).toArray }).get? b=some ob->h2.get? b=some ob:=fun b ob e=>by
  rw[<-eh]
  exact Heap.get?_push_of_some _ e
 have gI:h2.get? (s.heap.push { cls:=.type "list",data:=.seq ([]:List Value).toArray }).objs.size=some oi:=by
  rw[<-eh,<-eo]
  exact Heap.get?_push_size _ rfl
 rw[show (s.heap.push { cls:=.type "list",data:=.seq ([]:List Value).toArray }).objs.size=s.heap.objs.size+1 from sz1]at gI ⊢
 have g2:=Rp _ _ g0
 have XJ:=hA1.at' (h':=h2) fun o e=>Rp _ _ e
 have ty2:Shared.TypeIs { s with heap:=h2 } (.ref a) "dict" := XJ.dictOf.typeIs
 refine wpAny_bind (wpAny_holding ?_);unfold Builtin.List.listLengthHint
 refine wpAny_bind (wpAny_specialOf ty2 Vt ?_)
 (generalize hid:("dict.__len__" : String)=id0;(fail_if_success (clear hid id0));wp_delta;rw[show splitId id0=some ("dict","__len__") from by subst hid;decide +kernel])
 refine wpAny_bind (wpAny_isInstance (b:=true) ty2 (by rw[isSubtype_type];kernel_rfl) ?_)
 subst hid
 show wpAny _ A.in1 (typeOf (.ref a) >>= _) _ _ _
 refine wpAny_bind (wpAny_typeOf ty2 ?_)
 refine wpAny_pure ?_
 rw[if_pos (by decide)]
 refine wpAny_bind (wpAny_rule (wpAny_bind ?_))
 show wpAny _ A.in1 (updateSeq s.heap.objs.size (·.push .none) >>= fun _=>updateSeq s.heap.objs.size (·.pop)) _ _ _;refine wpAny_bind (wpAny_updateSeq g2 rfl ?_)
 have g3:=Heap.get?_update_self (Obj.mapSeq (·.push Value.none)) g2 rfl
 refine wpAny_updateSeq g3 rfl ?_
 have g4:=Heap.get?_update_self (Obj.mapSeq (·.pop)) g3 rfl
 have X7:∀ b ob,b ≠ s.heap.objs.size->h2.get? b=some ob->((h2.update s.heap.objs.size (Obj.mapSeq (·.push Value.none))).update s.heap.objs.size (Obj.mapSeq (·.pop))).get? b=some ob:=fun b ob hb e=>(Heap.get?_update_other _ _ (Ne.symm hb)).trans ((Heap.get?_update_other _ _ (Ne.symm hb)).trans e)
 have qBH:s.heap.objs.size ∉ [s.heap.objs.size+1,a]:=by
  simp only[List.mem_cons,List.not_mem_nil,or_false,not_or]
  exact⟨by lia,Nat.ne_of_gt la⟩
 have W:=(Walks.dictKeys (prog:=prog) (w:=w) (knd:=L2.cR prog w) (A:=A.in1) (by simp [hh]) (s.heap.objs.size+1) a (Nat.ne_of_lt (Nat.lt_succ_of_lt la)) kvs ep).toS
 have it2:h2.IsKeyIter (s.heap.objs.size+1) a 0 kvs.length ep:=⟨oi,gI,by rw[<-eo],by rw[<-eo];rfl⟩
 have st4:=W.frame 0 { s with heap:=h2 } ((h2.update s.heap.objs.size (Obj.mapSeq (·.push Value.none))).update s.heap.objs.size (Obj.mapSeq (·.pop))) s.toks ⟨it2,XJ⟩ (bu _) fun b hb ob e=>X7 b ob (fun z=>qBH (z ▸ hb)) e
 refine wpAny_pure ⟨plainId_quiet F.plain_extend_loop _,codeAny_extend_loopS W (by rw[lk,sizeLine_eq];lia) _ qBH _ kvs.length 0 _ _ _ rfl (Nat.zero_le _) st4 g4 (ItemsOf.nil _) fun s' acc' c' hm hS' hacc=>?_⟩
 show wpAny _ A (load s.heap.objs.size >>= _) _ _ s';refine wpAny_bind (wpAny_load hS' ?_)
 have e1:s'.gens=s.gens:=hm.gens
 have e2:s'.drawn=s.drawn:=hm.drawn
 have e3:s'.os=s.os:=hm.os
 obtain⟨h',g',d',tk',os'⟩:=s'
 have e1':g'=s.gens:=e1
 have e2':d'=s.drawn:=e2
 have e3':os'=s.os:=e3
 subst e1' e2' e3'
 refine wpAny_pure ?_
 refine fin h' acc'.toList tk' (ux (by rw[Array.length_toList,hacc.1,lk]) fun i n hi=>?_) fun b ob e=>?_
 ·have li:i < acc'.size:=by
   have:=(yZ.mp hi).1
   rw[hacc.1,lk]
   exact this
  obtain⟨k,x,hx,his⟩:=hacc.2 i acc'[i] (by simp [li])
  have hk':(kvs.map (·.1))[i]? = some k:=by rw[qd,hx];rfl
  rw[hk,qd,hi]at hk'
  have ek:Sum.inl n=k:=oN hk'
  subst ek
  obtain⟨tk,e5⟩:=Value.isInt_shape (k:=n) (v:=acc'[i]) his
  exact⟨tk,by simp [li,e5]⟩
 ·have lb:b < s.heap.objs.size:=Heap.lt_size e
  refine hm.heap b ob ?_ (X7 b ob (Nat.ne_of_lt lb) (Rp b ob (Heap.get?_push_of_some _ e)))
  simp only[List.mem_cons,List.not_mem_nil,or_false,not_or]
  exact⟨Nat.ne_of_lt lb,Nat.ne_of_lt (Nat.lt_succ_of_lt lb)⟩
theorem HQ{kvs:List (L2.Key × Value)}{ns:List Int}{Q:Value->Shared->Prop}(hh:A.handled=none)(hd:(a == sysModules)=false)(hD:s.heap.DictOf (L2.cR prog w) a kvs)(hk:kvs.map (·.1)=ns.map Sum.inl)(h64:ns.length < 64)
  (fin:∀(h1 h':Heap)(tk:Nat)(q:Addr)(out:Array Value)(rs:List Int)(e:Nat),IntsAre out.toList rs->rs.Perm ns->rs.Pairwise (· <= ·)->h1.objs.size<=q->h'.get? q=some (seqObj "list" out e)->(∀ b o,s.heap.get? b=some o->h1.get? b=some o)->(∀ b o,h1.get? b=some o->h'.get? b=some o)->Q (.ref q) { s with heap:=h',toks:=tk }) :
  wpAny (model prog w) A (call (.builtin "sorted") [.ref a]) Q E s:=by
 refine Calls.call_function_entry kind_sorted plain_sorted entry_sorted (args_sorted1 _) ?_
 unfold Builtin.«sorted»
 refine wpAny_bind (m:=checkCount "sorted" 1 1 _) (wpAny_pure ?_)
 refine wpAny_bind (GR (by first | exact hh | simp [hh]) hd hD hk (by lia) fun h1 vs tk i1 k1=>?_)
 have hl:=i1.length
 refine wpAny_bind (wpAny_newList ?_ (by rw[hl,sizeLine_eq];lia))
 have g1:(h1.push (seqObj "list" vs.toArray 0)).get? h1.objs.size=some (seqObj "list" vs.toArray 0):=Heap.get?_push_size _ rfl
 refine wpAny_bind (wpAny_holding (wpAny_call_entry slot_list_sort ⟨_,g1,rfl⟩ entry_list_sort (list_sort_tree (s:={ s with heap:=h1.push (seqObj "list" vs.toArray 0),toks:=tk }) g1 i1 (by lia) fun out ns' a1 a2 a3=>⟨_,rfl,?_⟩) (args_list_sort _)))
 obtain⟨e,he⟩:=sortedHeap_at (out:=out) g1
 refine wpAny_pure ⟨_,rfl,fin h1 _ tk h1.objs.size out ns' e a1 a2 a3 (bu _) he k1 fun b ob hb=>?_⟩
 have lb:b < h1.objs.size:=Heap.lt_size hb
 rw[sortedHeap_old (Nat.ne_of_lt lb) (by rw[Heap.size_push];exact Nat.lt_succ_of_lt lb)]
 exact Heap.get?_push_of_some _ hb
end
end So
namespace L2
open PySem PySem.Spec PyProof.Rows
section
variable{X:Cx}
def Qc:List V->Hp->VK->Prop:=fun xs H Q => ∃(p:Addr)(kvs:List (Key × V))(ns:List Int),xs=[.ref p]/\H p=some (.dK kvs)/\kvs.map (·.1)=ns.map Sum.inl/\ns.length < 64/\∀(q:Addr)(rs:List Int),H q=none->ns.Nodup->rs.Perm ns->rs.Pairwise (· <= ·)->Q (.ref q) (upd H q (.lst (rs.map V.int)))
theorem Cz(hca:X.calm=true):mL X (.builtin "sorted") Qc:=by
 intro pins s σ H xs us Q I r h
 obtain⟨p,kvs,ns,rfl,hq,hk,h64,q⟩:=h
 obtain⟨u,rfl,rx⟩:=vals1 r
 cases rx
 obtain⟨z,hd,vs,rel,dd⟩:=XS I.hok hq
 have hk':vs.map (·.1)=ns.map Sum.inl:=by rw[<-rel.keys,hk]
 have nd:ns.Nodup:=by
  obtain⟨ep,hA⟩:=dd.dictAt
  have h1:=hA.nodup
  rw[hk']at h1
  exact (List.pairwise_map.mp h1).imp fun z e=>z (by rw[e])
 refine So.HQ (I.ok.hd hca) hd dd hk' h64 fun h1 h' tk q' out rs e i1 i2 i3 i4 i5 i6 i7=>?_
 have J:Inv X pins σ H { s with heap:=h1 }:=I.kept (t':=s.toks) i6
 have lr:=i2.length_eq
 have i5':h'.get? q'=some { cls:=.type "list",data:=.seq out.toList.toArray e }:=by
  rw[i5]
 exact⟨.ref q',_,J.laid (h':=h') (t':=tk) (o:=.lst (rs.map V.int)) i7 i4 ⟨by rw[cM];exact zI (by lia),out.toList,e,lD i1,i5'⟩,rfl,q q' rs (J.hok.fresh i4) nd i2 i3⟩
end
end L2
namespace PySem
open Sem (wp)
open AutoSeq1 (wpAny_loadPart')
set_option maxRecDepth 100000
section
variable{prog:Program}{w:World}{A:Around}{E:Value->Shared->Prop}{s:Shared}
theorem CQ{q tt:Addr}{i:Nat}{vs:Array Value}{x:Value}{Q:Value->Shared->Prop}(g:s.heap.IsTupleIter q tt i)(gt:s.heap.IsTuple tt vs)(gx:vs[i]? = some x)
  (hQ:∀ h',h'.IsTupleIter q tt (i+1)->Heap.SameBut q s.heap h'->Q x { s with heap:=h' }):wpAny (model prog w) A (Builtin.SmallTypes.nextOf (.ref q)) Q E s:=by
 obtain⟨ob,go,gc,gd⟩:=id g
 obtain⟨ot,got,_,nt,gdt⟩:=gt
 unfold Builtin.SmallTypes.nextOf
 refine wpAny_bind (wpAny_callSpecial?_slot (name:=Str.ofString "__next__") g.typeIs F.slot_tuple_iterator_next (wpAny_call_entry F.slot_tuple_iterator_next g.typeIs F.entry_tuple_iterator_next ?_ (F.args_tuple_iterator_next_1 _)))
 show wpAny _ _ (field (.ref q) 0 >>= _) _ _ s
 refine wpAny_bind (wpAny_field go gd (x:=.ref tt) rfl ?_)
 show wpAny _ _ (if (Value.ref tt == Value.none)=true then _ else _) _ _ s
 rw[if_neg (show ¬ ((Value.ref tt == Value.none)=true) from mU)]
 show wpAny _ _ (field (.ref q) 1 >>= _) _ _ s
 refine wpAny_bind (wpAny_field go gd (x:=.int i 0) rfl ?_)
 show wpAny _ _ (seqItems? (.ref tt) >>= _) _ _ s
 refine wpAny_bind (wpAny_seqItems got gdt ?_)
 simp only[Int.toNat_natCast,gx]
 refine wpAny_bind (wpAny_setField go gd (by simp) (wpAny_pure ⟨x,rfl,wpAny_pure (hQ _ ?_ (Heap.SameBut.update ..))⟩))
 exact⟨_,Heap.get?_update_self _ go (Obj.isFreed_of_fields (Obj.data_mapFields gd _)),(Obj.cls_mapFields ..).trans gc,by rw[Obj.data_mapFields gd];simp [rawInt]⟩
theorem uh{q tt:Addr}{i:Nat}{vs:Array Value}{Q:Value->Shared->Prop}(hh:A.handled=none)(g:s.heap.IsTupleIter q tt i)(gt:s.heap.IsTuple tt vs)(gx:vs[i]? = none)
  (hE:∀ h' e,Heap.ExtBut q s.heap h'->(∃ o,h'.get? e=some o/\o.cls = .type "StopIteration")->E (.ref e) { s with heap:=h' }):wpAny (model prog w) A (Builtin.SmallTypes.nextOf (.ref q)) Q E s:=by
 obtain⟨ob,go,gc,gd⟩:=id g
 obtain⟨ot,got,_,nt,gdt⟩:=gt
 unfold Builtin.SmallTypes.nextOf
 refine wpAny_bind (wpAny_callSpecial?_slot (name:=Str.ofString "__next__") g.typeIs F.slot_tuple_iterator_next (wpAny_call_entry F.slot_tuple_iterator_next g.typeIs F.entry_tuple_iterator_next ?_ (F.args_tuple_iterator_next_1 _)))
 show wpAny _ _ (field (.ref q) 0 >>= _) _ _ s
 refine wpAny_bind (wpAny_field go gd (x:=.ref tt) rfl ?_)
 show wpAny _ _ (if (Value.ref tt == Value.none)=true then _ else _) _ _ s
 rw[if_neg (show ¬ ((Value.ref tt == Value.none)=true) from mU)]
 show wpAny _ _ (field (.ref q) 1 >>= _) _ _ s
 refine wpAny_bind (wpAny_field go gd (x:=.int i 0) rfl ?_)
 show wpAny _ _ (seqItems? (.ref tt) >>= _) _ _ s
 refine wpAny_bind (wpAny_seqItems got gdt ?_)
 simp only[Int.toNat_natCast,gx]
 refine wpAny_bind (wpAny_rule (wpAny_bind (wpAny_setField go gd (by simp) ?_)))
 show wpAny _ _ ((newExc (.type "StopIteration") []) >>= _) _ _ _
 refine wpAny_bind ?_
 simp only[newExc,newTuple]
 refine (wpAny_bind (wpAny_newObj_type ?_ (by size_fits)))
 refine (wpAny_bind (m:=firstArgMember _ _) (wpAny_of_eq (a:=Value.none) (by first | rfl | (simp only[firstArgMember];rfl)) ?_))
 refine (wpAny_newObj_type ?_ (by size_fits))
 simp only[raiseNew]
 refine wpAny_bind (wpAny_handled ?_)
 (first | rw[show A.in1.handled=none from hh] | rw[hh])
 refine (wpAny_bind (wpAny_pure (wpAny_throw ?_)))
 exact (hE _ _ (((Heap.SameBut.update ..).extBut.push _).push _) ⟨_,Heap.get?_push_size _ rfl,rfl⟩)
end
theorem T4{prog:Program}{w:World}{A:Around}(hh:A.handled=none)(q tt:Addr)(hne:tt ≠ q)(vs:Array Value) :
  Draws prog w A q [q,tt] vs.size (fun i v=>vs[i]? = some v) (fun i h=>h.IsTupleIter q tt i/\h.IsTuple tt vs) where
 live:=fun _ _ st=>let ⟨o,ho,_⟩:=st.1;⟨o,ho⟩
 frame:=fun _ _ _ st hk=>⟨st.1.at fun o e=>hk q (by simp) o e,st.2.at fun o e=>hk tt (by simp) o e⟩
 item:=fun i s Q E hi st hQ=>by
  refine CQ st.1 st.2 (x:=vs[i]) (by simp [hi]) fun h' hit' hs'=>?_
  exact hQ _ h' s.toks (by simp [hi]) ⟨hit',st.2.extBut hs'.extBut hne⟩ hs'
 done:=fun s Q E st hE=>uh hh st.1 st.2 (by simp) hE
theorem Sv(l:Addr)(vs:Array Value)(n:Nat)(dct:Option Addr)(sl:Array (Option Value)) :
  Meets (Builtin.«enumerate.__new__» ⟨[.type "enumerate",.ref l],[]⟩) (fun _ R s=>s.heap.get? l=some { cls:=.type "tuple",dict:=dct,data:=.seq vs n,slots:=sl } ∧
   R (.ok (.ret (.ref (s.heap.push { cls:=.type "tuple_iterator",data:=.fields #[.ref l,.int 0 0] }).objs.size)))
    { s with heap:=(s.heap.push { cls:=.type "tuple_iterator",data:=.fields #[.ref l,.int 0 0] }).push { cls:=.type "enumerate",data:=.fields #[.none,.bool false,.ref s.heap.objs.size,rawInt 0,.none,.none] } }):=
 .of_wp fun prog w A R s h=>by
  obtain⟨hp,g,d,tk,os⟩:=s
  obtain⟨hl,h⟩:=h
  have hsub:=sub_enumerate
  have hL:Heap.IsTuple (Shared.heap ⟨hp,g,d,tk,os⟩) l vs:=⟨_,hl,rfl,n,rfl⟩
  wp_walk using wpAny_loadPart' hl
  refine wpAny_stack_any fun st=>wpAny_pure ?_
  split
  ·rename_i c _ _ _ _ _
   cases (c == Value.type "enumerate")
   ·wp_walk using wpAny_loadPart' hl,wpAny_pyIter_tuple hL
    exact⟨_,rfl,h⟩
   ·wp_walk using wpAny_loadPart' hl,wpAny_pyIter_tuple hL
    exact⟨_,rfl,h⟩
  ·wp_walk using wpAny_loadPart' hl,wpAny_pyIter_tuple hL
   exact⟨_,rfl,h⟩
theorem Od{prog:Program}{w:World}{A:Around}{E:Value->Shared->Prop}{s:Shared}{l:Addr}{vs:Array Value}{Q:Value->Shared->Prop}(hL:s.heap.IsTuple l vs)
  (h:∀ h',IsEnum h' (s.heap.objs.size+1) s.heap.objs.size 0 .none->h'.IsTupleIter s.heap.objs.size l 0->h'.objs.size=s.heap.objs.size+2 →
   (∀ b o,s.heap.get? b=some o->h'.get? b=some o)->Q (.ref (s.heap.objs.size+1)) { s with heap:=h' }) :
  wpAny (model prog w) A (call (.type "enumerate") [.ref l]) Q E s:=by
 obtain⟨⟨c,dct,dt,sl⟩,hl,hc,n,hd⟩:=hL
 replace hc:c = .type "tuple" := hc
 replace hd:dt = .seq vs n:=hd
 subst hc hd
 refine callType_new F.called_enumerate (by decide) (F.typeCall_enumerate_1 _) (F.newCall_enumerate_1 _) (fun obj=>F.args_object_init_2 obj _) F.entry_enumerate_new (Sv l vs n dct sl) ⟨hl,?_⟩
 have hz:(s.heap.push { cls:=.type "tuple_iterator",data:=.fields #[.ref l,.int 0 0] }).objs.size=s.heap.objs.size+1:=Heap.size_push ..
 show _/\_
 rw[hz]
 have he:IsEnum ((s.heap.push { cls:=.type "tuple_iterator",data:=.fields #[.ref l,.int 0 0] }).push
   { cls:=.type "enumerate",data:=.fields #[.none,.bool false,.ref s.heap.objs.size,rawInt 0,.none,.none] }) (s.heap.objs.size+1) s.heap.objs.size 0 .none:=by
  have:=Heap.get?_push_size (s.heap.push { cls:=.type "tuple_iterator",data:=.fields #[.ref l,.int 0 0] })
   (o:={ cls:=.type "enumerate",data:=.fields #[.none,.bool false,.ref s.heap.objs.size,rawInt 0,.none,.none] }) rfl
  rw[hz]at this
  exact this
 exact⟨⟨_,he,rfl⟩,h _ he ⟨_,Heap.get?_push_of_some _ (Heap.get?_push_size _ rfl),rfl,rfl⟩ (by rw[Heap.size_push,hz]) fun b o x=>Heap.get?_push_of_some _ (Heap.get?_push_of_some _ x)⟩
theorem Sw{prog:Program}{w:World}{A:Around}{E:Value->Shared->Prop}{s:Shared}{e q tt:Addr}{vs:Array Value}{i:Nat}{j:Int}{old:Value}{Q:Option Value->Shared->Prop}(hh:A.handled=none)(he:IsEnum s.heap e q j old)(g:s.heap.IsTupleIter q tt i)(gt:s.heap.IsTuple tt vs)(gx:vs[i]? = none)
  (hQ:∀ h',Heap.ExtBut q s.heap h'->Q none { s with heap:=h' }):wpAny (model prog w) A (pyNext (.ref e)) Q E s:=by
 have hT:s.TypeIs (.ref e) "enumerate" := ⟨_,he,rfl⟩
 unfold pyNext
 refine wpAny_bind (wpAny_attempt (wpAny_callSpecial?_slot (name:=Str.ofString "__next__") hT F.slot_enumerate_next (wpAny_call_entry F.slot_enumerate_next hT F.entry_enumerate_next ?_ (F.args_enumerate_next_1 _))))
 show wpAny _ _ (field (.ref e) 2 >>= _) _ _ _
 refine wpAny_bind (wpAny_field he rfl (x:=.ref q) rfl ?_)
 refine wpAny_bind (uh (A:=A.in1) hh g gt gx fun h' x he' hx'=>?_)
 obtain⟨o,ho,hc⟩:=hx'
 refine (wpAny_bind (wpAny_isInstance (T := "StopIteration") (b:=true) ⟨o,ho,hc⟩ isSubtype_stop ?_))
 exact wpAny_pure (hQ _ he')
end PySem
namespace L2
open PySem PySem.Spec PyProof.Rows
section
variable{X:Cx}{pins:List (Addr × Obj)}{σ:St}{H:Hp}{s:Shared}{h':Heap}
theorem Inv.Jp{t':Nat}{ts:List Addr}(I:Inv X pins σ H s)(k:∀ b o,b ∉ ts->s.heap.get? b=some o->h'.get? b=some o)(hf:∀ b∈ts,oh X pins H b):Inv X pins σ H { s with heap:=h',toks:=t' }:=by
 have nit:∀ b u,H b=some u->b ∉ ts:=fun b u e z=>by
  rw[(hf b z).1]at e
  cases e
 refine I.step (g':=s.gens) (d':=s.drawn) (ch:=ts) (fun b hb=>?_) (fun b o _ _ hc e _=>k b o hc e) (fun b o _ _ hc e _=>⟨o.slots,k b o hc e⟩) (fun _ _ _ _ n=>n) (fun b o hc e=>⟨o,k b o hc e⟩) (fun _ _ e=>e) (fun _ _ _ e=>e) (fun b ps e=>⟨#[],by rw[e];simp⟩) (fun m hm=>?_) (fun b u e=>?_) I.bare
 ·obtain⟨f0,f1,f2,f3,f4,f5⟩:=hf b hb
  exact⟨f3,f1,f4,f5⟩
 ·obtain⟨o,es,ep,ho,r⟩:=hm
  exact⟨o,es,ep,k _ o (fun z=>(hf _ z).2.1 rfl) ho,r⟩
 ·refine (I.hok b u e).stay (fun c v hc q=>k c v ?_ q) (fun _ q=>q) fun _ _ q=>q
  rcases hc with z | z
  ·rw[z]
   exact nit b u e
  ·exact nit c _ z
end
def Ite(K:PySem.W.Frag)(a:Addr):It:=
 ⟨fun i H => ∃ xs x,aH K H a xs/\xs[i]? = some x,fun i H v H' => ∃(t:Addr)(x:V),v = .ref t/\H t=none/\(∀ xs,aH K H a xs->xs[i]? = some x)/\H'=upd H t (.tup [.int (i:Int),x]),fun i H => ∃ xs,aH K H a xs/\xs.length<=i⟩
theorem M3{P:Program}{w:World}{K:PySem.W.Frag}{es:List Expr}{k:Nat}{pos:Pos}(a e q:Addr):Turn P w K (.Tuple es k pos) (Ite K a) [e,q] e (fun i h=>(∃ old,IsEnum h e q (i:Nat) old)/\h.IsTupleIter q a i) where
 mem:=by simp
 obj:=fun i h st b hb=>by
  obtain⟨⟨old,he⟩,o,ho,hc,hd⟩:=st
  rcases dG.mp hb with rfl | hb
  ·refine⟨_,he,fun v z=>?_⟩
   have z2:Data.fields _=Data.cell v:=z
   cases z2
  ·rw[cJ.mp hb]
   exact⟨o,ho,fun v z=>by rw[hd]at z;cases z⟩
 keep:=fun i h h' st k=>by
  obtain⟨⟨old,he⟩,hq⟩:=st
  exact⟨⟨old,k e (by simp) _ he⟩,hq.at fun o z=>k q (by simp) o z⟩
 item:=by
  intro X hP hw hK hc i pins s σ H E I hf st hg
  subst hP hw hK
  obtain⟨xs,x,hq,hx⟩:=hg
  obtain⟨its,rv,p,hz⟩:=I.tuple hq
  obtain⟨u,hu,ru⟩:=rv.get hx
  obtain⟨⟨old,he⟩,hit⟩:=st
  have pt:s.heap.IsTuple a its.toArray:=p
  have naq:a ≠ q:=fun z=>by
   obtain⟨o1,g1,c1,_⟩:=pt
   obtain⟨o2,g2,c2,_⟩:=hit
   rw[z,g2]at g1
   cases g1
   rw[c2]at c1
   injection c1 with c1
   exact absurd c1 (by decide)
  have neq:e ≠ q:=fun z=>by
   obtain⟨o2,g2,c2,_⟩:=hit
   rw[<-z]at g2
   have g3:=g2.symm.trans he
   cases g3
   have c3:Value.type "enumerate" = Value.type "tuple_iterator" := c2
   injection c3 with c3
   exact absurd c3 (by decide)
  have nea:e ≠ a:=fun z=>by
   obtain⟨o1,g1,c1,_⟩:=pt
   rw[<-z]at g1
   have g3:=g1.symm.trans he
   cases g3
   have c3:Value.type "enumerate" = Value.type "tuple" := c1
   injection c3 with c3
   exact absurd c3 (by decide)
  have D:=T4 (prog:=X.prog) (w:=X.w) (A:=X.A.in1) (I.ok.hd hc) q a naq its.toArray
  have hlt:i < its.toArray.size:=by
   have:=(yZ.mp hu).1
   simpa using this
  have hnew:H s.heap.objs.size=none:=I.hok.fresh (bu _)
  refine wpAny_pyNext_enum_itemD D he ⟨hit,pt⟩ hlt neq (by simp [neq,nea]) fun y h1 tk hy ho hs1 hT hsz hk=>?_
  obtain rfl:y=u:=by
   rw[List.getElem?_toArray,hu]at hy
   exact (oN hy).symm
  refine⟨_,rfl,wpAny_letOwnedTupleGo_enum ho fun h2 he2 sb=>?_⟩
  have nse:s.heap.objs.size ≠ e:=Nat.ne_of_gt (Heap.lt_size he)
  have nsq:s.heap.objs.size ≠ q:=by
   obtain⟨o2,g2,_⟩:=hit
   exact Nat.ne_of_gt (Heap.lt_size g2)
  have kk:∀ b o,b ∉ [e,q]->s.heap.get? b=some o->h2.get? b=some o:=fun b o hb g=>by
   have b1:b ≠ e:=fun z=>hb (by simp [z])
   have b2:b ≠ q:=fun z=>hb (by simp [z])
   exact (sb.2 b b1).trans (hk b o b1 b2 g)
  have I1:Inv X pins σ H { s with heap:=h2,toks:=tk+1 }:=I.Jp kk hf
  have I2:Inv X pins σ (upd H s.heap.objs.size (.tup [.int (i:Int),x])) { s with heap:=h2,toks:=tk+1 }:=by
   refine Inv.adopt I1 (I.yx (bu _) hnew) ⟨by show 2<=sizeLine;decide,[.int i tk,y],.cons ⟨tk,rfl⟩ (.cons ru .nil),?_⟩
   exact⟨_,(sb.2 _ nse).trans hT,rfl,_,rfl⟩
  refine⟨.ref s.heap.objs.size,_,I2,rfl,⟨_,x,rfl,hnew,fun ys hy=>by rw[I.uA hy hq];exact hx,rfl⟩,⟨⟨y,by have:=he2;simpa using this⟩,hs1.1.at fun o g=>(sb.2 q (Ne.symm neq)).trans g⟩,fun b hb=>?_⟩
  have nb:b ≠ s.heap.objs.size:=by
   rcases dG.mp hb with rfl | hb
   ·exact Ne.symm nse
   ·rw[cJ.mp hb]
    exact Ne.symm nsq
  rw[zQ nb]
  exact (hf b hb).1
 done:=by
  intro X hP hw hK hc i pins s σ H E I hf st hg
  subst hP hw hK
  obtain⟨xs,hq,hx⟩:=hg
  obtain⟨its,rv,p,hz⟩:=I.tuple hq
  obtain⟨⟨old,he⟩,hit⟩:=st
  have pt:s.heap.IsTuple a its.toArray:=p
  have hl:=rv.length
  have hnone:its.toArray[i]? = none:=by simp;lia
  refine Sw (I.ok.hd hc) he hit pt hnone fun h2 eb=>⟨rfl,?_⟩
  exact I.Jp (t':=s.toks) (fun b o hb g=>eb b o (fun z=>hb (by simp [z])) g) hf
 self:=fun _ _ _ _ _ st h=>by
  obtain⟨⟨old,he⟩,_⟩:=st
  exact wpAny_pyIter_enum he h
section
variable{X:Cx}{es:List Expr}{k:Nat}{tpos:Pos}
def qBR(K:PySem.W.Frag)(ta:TA):TI:=fun σ H R=>ta σ H fun vs H1 => ∃ a,vs=[.ref a]/\(∃ xs,aH K H1 a xs)/\R (Ite K a) H1
theorem V0{l:Expr}{ta:TA}{p pos:Pos}(hg:Gl X "enumerate")(hm:X.mg "enumerate" = none)(ha:PA X [l] ta)(hs:starEach [l] X.env=[(false,eval l X.env)]:=by rfl):PI X (.Tuple es k tpos) (.Call (.Name "enumerate" p) [l] [] pos) (qBR X.K ta):=by
 intro pins s σ H R I h
 refine Call_ (nU I hg hm boot_enumerate (PyProof.Rows.callWith_type1 (cA (ha pos pins s σ H _ I h) fun us s1 ⟨vs,H1,I1,r1,q1⟩=>?_) hs rfl))
 obtain⟨a,e,⟨xs,hq⟩,q⟩:=q1
 subst e
 cases r1 with
 | cons r rr=>
  cases rr
  cases r
  obtain⟨its,rv,p,hz⟩:=I1.tuple hq
  refine Od (show s1.heap.IsTuple a its.toArray from p) fun h' he hit hsz hk=>?_
  refine wpAny_pyIter_enum he ?_
  have I2:Inv X pins σ H1 { s1 with heap:=h' }:=I1.kept (t':=s1.toks) hk
  refine⟨s1.heap.objs.size+1,[s1.heap.objs.size+1,s1.heap.objs.size],_,_,H1,rfl,I2,M3 a _ _,⟨⟨.none,by simpa using he⟩,hit⟩,fun b hb=>?_,q⟩
  rcases dG.mp hb with rfl | hb
  ·exact I1.yx (Nat.le_succ _) (I1.hok.fresh (Nat.le_succ _))
  ·rw[cJ.mp hb]
   exact I1.yx (bu _) (I1.hok.fresh (bu _))
end
theorem Sh{K:PySem.W.Frag}{a:Addr}{xs:List V}{g:TG}{tb:TS}{D:Ends}{σ:St}{H:Hp}(Pv:Nat->St->Hp->Prop)(h0:Pv 0 σ H)(hl:∀ i σ H,i<=xs.length->Pv i σ H->aH K H a xs)
  (hs:∀ i x σ H t,xs[i]? = some x->Pv i σ H->H t=none->g (.ref t) σ (upd H t (.tup [.int (i:Int),x])) fun σ2 H2=>tb { D with nx:=Pv (i+1),ct:=Pv (i+1),bk:=D.nx } σ2 H2) (hd:∀ σ H,Pv xs.length σ H->D.nx σ H) :
  ∃ W:Nat->Nat->St->Hp->Prop,(∃ m,W 0 m σ H)/\∀ i m σ H,W i m σ H →
   ((Ite K a).stop i H/\D.nx σ H) ∨ ((Ite K a).go i H/\∃ N:St->Hp->Prop,(∀ σ' H',N σ' H'->∃ m',m' < m/\W (i+1) m' σ' H')/\∀ x H',(Ite K a).Ub i H x H'->g x σ H' fun σ2 H2=>tb { D with nx:=N,ct:=N,bk:=D.nx } σ2 H2):=by
 refine⟨fun i m σ H=>m+i=xs.length/\Pv i σ H,⟨xs.length,rfl,h0⟩,?_⟩
 rintro i m σ H ⟨hm,p⟩
 have hq:=hl i σ H (by lia) p
 by_cases hlt:i < xs.length
 ·refine .inr ⟨⟨xs,xs[i],hq,by simp [hlt]⟩,Pv (i+1),fun σ' H' p'=>⟨m - 1,by lia,by lia,p'⟩,fun v H' y=>?_⟩
  obtain⟨t,x,rfl,ht,hx,rfl⟩:=y
  exact hs i x σ H t (hx xs hq) p ht
 ·obtain rfl:i=xs.length:=by lia
  exact .inl ⟨⟨xs,hq,bu _⟩,hd σ H p⟩
end L2
namespace L2
open PySem
def qA8:Expr->Option V
 | .Constant (.int i) _ _=>some (.int i)
 | .Constant (.str z) _ _=>some (.str z)
 | .UnaryOp .USub (.Constant (.int i) _ _) _=>some (.int (-i))
 | _=>none
def Le:List Expr->Option (List V)
 | []=>some []
 | e :: es=>match qA8 e,Le es with
  | some v,some vs=>some (v :: vs)
  | _,_=>none
section
variable{X:Cx}
theorem qA7{e:Expr}{v:V}(h:qA8 e=some v):PE X e (fun _ H Q=>Q v H)/\∀ es,starEach (e :: es) X.env=(false,eval e X.env) :: starEach es X.env:=by
 unfold qA8 at h
 split at h
 ·cases h
  exact⟨zB,fun _=>rfl⟩
 ·cases h
  exact⟨zP,fun _=>rfl⟩
 ·cases h
  refine⟨fun pins s σ H Q I h=>?_,fun _=>rfl⟩
  exact (Qi Gv zB) pins s σ H Q I ⟨_,rfl,h⟩
 ·cases h
theorem Af:∀ {es:List Expr} {vs:List V},Le es=some vs->PA X es (fun _ H Q=>Q vs H)
 | [],vs,h=>by
  cases h
  exact zD
 | e :: es,vs,h=>by
  unfold Le at h
  split at h
  ·rename_i v vs' h1 h2
   cases h
   obtain⟨a,b⟩:=qA7 (X:=X) h1
   exact zA a (Af h2) (b es)
  ·cases h
end
structure RE(X:Cx)(e:Expr)(t:TE):Prop where
 p:PE X e t
structure RS(X:Cx)(st:Stmt)(t:TS):Prop where
 p:PS X st t
structure RSs(X:Cx)(st:List Stmt)(t:TS):Prop where
 p:Gi X st t
structure RA(X:Cx)(es:List Expr)(t:TA):Prop where
 p:PA X es t
section
variable{X:Cx}{e a b c:Expr}{es:List Expr}{te ta tb:TE}{tc:TT}{tr:TA}{pos:Pos}{st:Stmt}{ss rest:List Stmt}{t u:TS}
theorem qB8(h:RS X st t):RSs X [st] t:=⟨zG h.p⟩
theorem jT(h:RS X st t)(h2:RSs X rest u):RSs X (st :: rest) (qAL t u):=⟨zE h.p h2.p⟩
theorem Wo(h:RS X st t)(h2:RSs X rest u):RSs X (st :: rest) (qAW t u):=⟨zZ h.p h2.p⟩
theorem Bx(h:PS X st t):RS X st t:=⟨h⟩
theorem Ep{i:Nat}{x:Str}{pos':Pos}(hN:X.N.Nodup)(hi:X.N[i]? = some x)(hx:Loc X.env.scope x)(he:RE X e te)(hs:swapsWith e (some (.Name x pos')) pos.line X.env=pure false:=by rfl)(hf:X.fn x=true ∨ X.env.scope.names.lookup x=some .local:=by first | exact .inl rfl | exact .inr rfl | assumption):RS X (.Assign [.Name x pos'] e pos) (Uh te (Ks i)):=⟨zK hN hi hx he.p hs hf⟩
theorem Es(ha:RE X a ta)(hb:PE X b tb)(hs:Lq b):RE X (.Subscript a b pos) (tOp (Xx X.K) ta tb):=⟨yB yU ha.p hb hs⟩
theorem Er(h:RA X es tr):RE X (.List es pos) (qAR tr):=⟨yK h.p⟩
theorem wX{vs:List V}(h:Le es=some vs):RA X es (fun _ H Q=>Q vs H):=⟨Af h⟩
end
end L2
namespace L2
open PySem PySem.Spec PyProof.Rows
section
variable{X:Cx}
theorem range_any(n:Nat)(f:Nat->Bool)(bs:List Bool)(hl:bs.length=n)(hf:∀ i b,bs[i]? = some b->f i=b):(List.range n).any f=bs.any id:=by
 rw[Bool.eq_iff_iff,List.any_eq_true,List.any_eq_true]
 constructor
 ·rintro⟨i,hi,h⟩
  have hi':i < bs.length:=by rw[hl];exact List.mem_range.mp hi
  rw[hf i _ (cj hi')]at h
  exact⟨_,fB hi',h⟩
 ·rintro⟨b,hb,h⟩
  obtain⟨i,e⟩:=List.mem_iff_getElem?.mp hb
  have hi:=(yZ.mp e).1
  exact⟨i,List.mem_range.mpr (by lia),by rw[hf i b e];exact h⟩
theorem uW(hc:X.calm=true):mL X (.builtin "any") (fun xs H Q => ∃(p:Addr)(bs:List Bool),xs=[.ref p]/\aX X.K H p (bs.map V.bl)/\Q (.bl (bs.any id)) H):=by
 intro pins s σ H xs us Q I r h
 obtain⟨p,bs,rfl,hq,q⟩:=h
 obtain⟨u,rfl,rx⟩:=vals1 r
 cases rx
 obtain⟨its,rv,pl,hz⟩:=I.list hq
 have hlen:=rv.length
 rw[cM]at hlen
 have hlt:p < s.heap.objs.size:=by
  obtain⟨o,ho,_⟩:=pl.isList
  exact Heap.lt_size ho
 refine call_any_walk (wpAny_pyIter_list pl.isList ?_)
 refine⟨s.heap.objs.size,[s.heap.objs.size,p],[s.heap.objs.size],its.toArray.size,fun i v=>its.toArray[i]? = some v,fun i h=>h.IsListIter s.heap.objs.size p i/\h.IsList p its.toArray,fun i=>(bs[i]?).getD true,rfl,
  Walks.list (A:=X.A.in1) (I.ok.hd hc) _ _ (Nat.ne_of_lt hlt) _,⟨⟨_,Heap.get?_push_size _ rfl,rfl,rfl⟩,pl.isList.at fun o e=>Heap.get?_push_of_some _ e⟩,?_,?_⟩
 ·intro i v s' Q' E' hv hQ'
  have hi:i < bs.length:=by
   have:=(Array.getElem?_eq_some_iff.mp hv).1
   simp only[List.size_toArray]at this
   lia
  have e:bs[i]? = some bs[i]:=cj hi
  obtain⟨u,hu,ru⟩:=rv.get (i:=i) (x:=V.bl bs[i]) (by rw[qd,e];rfl)
  have hv':its[i]? = some v:=by simpa using hv
  rw[hu]at hv'
  cases hv'
  cases ru
  have hQ2:Q' ((bs[i]?).getD true) s':=hQ'
  rw[e]at hQ2
  exact wpAny_truthy_bool hQ2
 ·intro h' tk k
  refine⟨.bl (bs.any id),H,I.kept (t':=tk) (h':=h') fun b u e=>k b u (fun z=>?_) (Heap.get?_push_of_some _ e),?_,q⟩
  ·have z':b=s.heap.objs.size:=by simpa using z
   exact absurd (Heap.lt_size e) (by rw[z'];exact Nat.lt_irrefl _)
  ·show Value.bool _=Value.bool _
   rw[range_any its.toArray.size _ bs (by simp only[List.size_toArray];exact hlen) fun i b e=>by rw[e];rfl]
end
def Itd(top:Int)(n:Nat):It:=⟨fun i _=>i < n,fun i H x H'=>H'=H/\x = .int (top - i),fun i _=>n<=i⟩
theorem M4{P:Program}{w:World}{K:PySem.W.Frag}{tg:Expr}(it:Addr)(top:Int)(n:Nat):Turn P w K tg (Itd top n) [it] it (fun i h=>IsRangeIter h it (top+(i:Nat) * (-1)) ((n:Int) - (i:Nat)) (-1)) where
 mem:=by simp
 obj:=fun i h st b hb=>by
  obtain rfl:b=it:=by simpa using hb
  refine⟨_,st,fun v z=>?_⟩
  have z2:Data.fields _=Data.cell v:=z
  cases z2
 keep:=fun i h h' st k=>k it (by simp) _ st
 item:=by
  intro X hP hw hK hc i pins s σ H E I hf st hg
  subst hP hw hK
  obtain⟨f0,f1,_,f3,f4,f5⟩:=hf it (by simp)
  refine (Walks.range (prog:=X.prog) (w:=X.w) (I.ok.hd hc) it top (-1) n).item i s _ _ hg st fun v h' tk hv st' kk=>?_
  obtain⟨t,rfl⟩:=hv
  have I1:Inv X pins σ H { s with heap:=h',toks:=tk }:=I.turned (fun b o hb e=>kk b o (by simpa using hb) e) f0 f1 f3 f4 f5
  have ev:top+(i:Int) * (-1)=top - i:=by lia
  refine⟨_,rfl,GP (s:={ s with heap:=h',toks:=tk }) (n := "range_iterator") st' rfl rfl (by decide) ⟨.int (top - i),H,I1,⟨t,by rw[<-ev]⟩,⟨rfl,rfl⟩,st',fun b hb=>(hf b hb).1⟩⟩
 done:=by
  intro X hP hw hK hc i pins s σ H E I hf st hg
  subst hP hw hK
  obtain⟨f0,f1,_,f3,f4,f5⟩:=hf it (by simp)
  have hn:n<=i:=hg
  exact wpAny_pyNext_range_end (I.ok.hd hc) st (by lia) fun h' eb=>⟨rfl,I.turned (t':=s.toks) (fun b o hb e=>eb b o hb e) f0 f1 f3 f4 f5⟩
 self:=fun _ _ _ _ _ st h=>wpAny_pyIter_rangeiter st h
section
variable{X:Cx}{tg:Expr}
theorem Vy{pins:List (Addr × Obj)}{σ:St}{H:Hp}{s:Shared}{R:It->Hp->Prop}{E:Value->Shared->Prop}{x y:Int}{t u v:Tok}{tk:Nat}(I:Inv X pins σ H s)(h1 : -(2 ^ 62)<=x)(h2:x < 2 ^ 62)(h3 : -(2 ^ 62)<=y)(h4:y < 2 ^ 62)
  (q:R (Itd x (x - y).toNat) H):wpAny (model X.prog X.w) X.A (pyIter (.ref s.heap.objs.size)) (PIE X pins σ tg R) E { s with heap:=s.heap.push { cls:=.type "range",data:=.fields #[.int x t,.int y u,.int (-1) v] },toks:=tk }:=by
 refine wpAny_pyIter_range (IsRange.new ..) (PySem.W.small_down h1 h2 h3 h4) ?_
 have I1:Inv X pins σ H { s with heap:=s.heap.push { cls:=.type "range",data:=.fields #[.int x t,.int y u,.int (-1) v] },toks:=tk }:=I.kept fun b o e=>Heap.get?_push_of_some _ e
 refine⟨(s.heap.push { cls:=.type "range",data:=.fields #[.int x t,.int y u,.int (-1) v] }).objs.size,[(s.heap.push { cls:=.type "range",data:=.fields #[.int x t,.int y u,.int (-1) v] }).objs.size],_,_,H,rfl,
  I1.kept (t':=tk) fun b o e=>Heap.get?_push_of_some _ e,M4 _ x (x - y).toNat,?_,fun b hb=>?_,q⟩
 ·have e1:x+((0:Nat):Int) * (-1)=x:=by simp
  have e2:(((x - y).toNat:Nat):Int) - ((0:Nat):Int)=Builtin.Range.rangeSize x y (-1):=by rw[PySem.W.rangeSize_downNat];simp
  show IsRangeIter _ _ (x+((0:Nat):Int) * (-1)) ((((x - y).toNat:Nat):Int) - ((0:Nat):Int)) (-1)
  rw[e1,e2]
  exact Heap.get?_push_size _ rfl
 ·obtain rfl:b=(s.heap.push { cls:=.type "range",data:=.fields #[.int x t,.int y u,.int (-1) v] }).objs.size:=by simpa using hb
  exact I1.yx (bu _) (I1.hok.fresh (bu _))
def qBS(ta:TA):TI:=fun σ H R=>ta σ H fun vs H1 => ∃ i:Int,vs=[.int i,.int (-1),.int (-1)] /\ -1<=i/\i < 2 ^ 62/\R (Itd i (i - (-1)).toNat) H1
theorem V1{a b c:Expr}{ta:TA}{p pos:Pos}(hg:Gl X "range")(hm:X.mg "range" = none)(ha:PA X [a,b,c] ta)(hs:starEach [a,b,c] X.env=[(false,eval a X.env),(false,eval b X.env),(false,eval c X.env)]:=by rfl)(hs2:starEach [b,c] X.env=[(false,eval b X.env),(false,eval c X.env)]:=by rfl) :
  PI X tg (.Call (.Name "range" p) [a,b,c] [] pos) (qBS ta):=by
 intro pins s σ H R I h
 refine Call_ (nU I hg hm boot_range (PyProof.Rows.callWith_type1 (cA (ha pos pins s σ H _ I h) fun us s1 ⟨vs,H1,I1,r1,q1⟩=>?_) (by rw[hs,hs2]) (by rw[hs2];rfl)))
 obtain⟨i,e,q1,q2,q⟩:=q1
 subst e
 cases r1 with
 | cons r rr=>
  cases rr with
  | cons r' rr=>
   cases rr with
   | cons r2 rr=>
    cases rr
    obtain⟨t,rfl⟩:=r
    obtain⟨t',rfl⟩:=r'
    obtain⟨t2,rfl⟩:=r2
    exact call_range_3 (by decide) (Vy I1 (by lia) q2 (by decide) (by decide) q) (.inl (PyProof.noPylong_small (by decide)))
end
theorem Sq{top:Int}{n:Nat}{g:TG}{tb:TS}{D:Ends}{σ:St}{H:Hp}(Pv:Nat->St->Hp->Prop)(h0:Pv 0 σ H)
  (hs:∀ i σ H,i < n->Pv i σ H->g (.int (top - i)) σ H fun σ2 H2=>tb { D with nx:=Pv (i+1),ct:=Pv (i+1),bk:=D.nx } σ2 H2) (hd:∀ σ H,Pv n σ H->D.nx σ H) :
  ∃ W:Nat->Nat->St->Hp->Prop,(∃ m,W 0 m σ H)/\∀ i m σ H,W i m σ H →
   ((Itd top n).stop i H/\D.nx σ H) ∨ ((Itd top n).go i H/\∃ N:St->Hp->Prop,(∀ σ' H',N σ' H'->∃ m',m' < m/\W (i+1) m' σ' H')/\∀ x H',(Itd top n).Ub i H x H'->g x σ H' fun σ2 H2=>tb { D with nx:=N,ct:=N,bk:=D.nx } σ2 H2):=by
 refine⟨fun i m σ H=>m+i=n/\Pv i σ H,⟨n,rfl,h0⟩,?_⟩
 rintro i m σ H ⟨hm,p⟩
 by_cases hlt:i < n
 ·refine .inr ⟨hlt,Pv (i+1),fun σ' H' p'=>⟨m - 1,by lia,by lia,p'⟩,fun x H' y=>?_⟩
  obtain⟨rfl,rfl⟩:=y
  exact hs i σ _ hlt p
 ·obtain rfl:i=n:=by lia
  exact .inl ⟨bu _,hd σ H p⟩
section
variable{X:Cx}
end
end L2
namespace PySem
open Sem (wp)
namespace Rv
section
variable{prog:Program}{w:World}{A:Around}{E:Value->Shared->Prop}{s:Shared}{I:Addr}{fp wr:List Addr}{G:Array GenState->Array GenState->Prop}{n:Nat}{P:Nat->Value->Prop}{St:Nat->Shared->Prop}
end
end Rv
end PySem
namespace L2
open PySem PySem.Spec PyProof.Rows
section
variable{X:Cx}
theorem Qp:mQ X (binaryOp .Add) (fun x y H Q => ∃(a b:Addr)(ys:List V),x = .ref a/\y = .ref b/\aH X.K H a []/\aH X.K H b ys/\Q (.ref b) H):=by
 intro pins s σ H x y v u Q I rx ry h
 obtain⟨a,b,ys,rfl,rfl,ha,hb,q⟩:=h
 cases rx
 cases ry
 obtain⟨its,r1,p1,_⟩:=I.tuple ha
 obtain⟨its2,r2,p2,_⟩:=I.tuple hb
 have e0:its=[]:=r1.vZ.mpr rfl
 subst e0
 obtain⟨⟨cls,dd,data,sl⟩,ho,hc,n,hd⟩:=id p1
 obtain⟨⟨cls2,dd2,data2,sl2⟩,ho2,hc2,n2,hd2⟩:=id p2
 simp only at hc hd hc2 hd2
 subst hc hd hc2 hd2
 exact concat_meets ⟨_,ho,rfl⟩ ⟨_,ho2,rfl⟩ noFill_tuple_add seq_tuple_add PySem.F.slot_tuple_add PySem.F.entry_tuple_add (PySem.F.args_tuple_add_2 _ _) (tuple_addW0 a b _ _ n n2 dd dd2 sl sl2 (by simp)) ⟨ho,ho2,⟨.ref b,H,I,rfl,q⟩⟩
end
end L2
namespace PySem
open Sem (wp)
open AutoSeq1 (wpAny_loadPart')
namespace Rt
set_option maxRecDepth 100000
theorem Ao:typeLookup (.type "reversed") (Str.ofString "__next__")=pure (some (.builtin "reversed.__next__")):=by
 rw[typeLookup_type,builtinLookup_eq_fast];kernel_rfl
theorem slot_next:Slot "reversed" (Str.ofString "__next__") "reversed.__next__" :=
 Slot.of (owner := "reversed") (n := "__next__") Ao (by decide +kernel) (by decide +kernel) (by decide +kernel) (Or.inl (by decide +kernel)) F.sub_reversed_self
theorem M7:Slot "reversed" (Str.ofString "__init__") "object.__init__" :=
 Slot.of (owner := "object") (n := "__init__") (by rw[typeLookup_type,builtinLookup_eq_fast];kernel_rfl) (by decide +kernel) (by decide +kernel) (by decide +kernel) (Or.inl (by decide +kernel)) (by rw[isSubtype_type];kernel_rfl)
theorem called:TypeCalled "reversed" "reversed.__new__" "object.__init__" := ⟨by decide,F.create_reversed,⟨_,_,F.mro_reversed⟩,F.made_reversed,F.plain_reversed_new,F.sub_reversed_self,M7⟩
theorem YM:typeLookup (.type "tuple") (Str.ofString "__reversed__")=pure none:=by
 rw[typeLookup_type,builtinLookup_eq_fast];kernel_rfl
theorem entry_next:entryFor table "reversed.__next__" = some Builtin.«reversed.__next__»:=entryFor_of_tree (by kernel_rfl)
def Gj(h:Heap)(it t:Addr)(i:Int):Prop:=∃ o,h.get? it=some o/\o.cls = .type "reversed" /\ o.data = .fields #[.ref t,rawInt i]
theorem Gj.typeIs{s:Shared}{it t:Addr}{i:Int}(h:Gj s.heap it t i):s.TypeIs (.ref it) "reversed" := by
 obtain⟨o,a,b,_⟩:=h
 exact⟨o,a,b⟩
theorem Ag:List.lookup (String.ofList ['d','e','s','r','e','v','e','r'].reverse) Manifest.owners=some Manifest.sig_reversed:=by kernel_rfl
theorem args_next(a:Value):argsOk "reversed.__next__" { pos:=[a] }:=by
 unfold argsOk
 rw[signature?_of (n:=['_','_','t','x','e','n','_','_']) (o:=['d','e','s','r','e','v','e','r']) (by kernel_rfl) Ag]
 kernel_rfl
section
variable{prog:Program}{w:World}{A:Around}{E:Value->Shared->Prop}{s:Shared}
theorem next_item{it t:Addr}{i:Nat}{items:Array Value}{x:Value}{Q:Option Value->Shared->Prop}(hi:Gj s.heap it t (i:Int))(ht:s.heap.IsTuple t items)(hT:PyProof.Rows.IsTup s.heap t items)(hx:items[i]? = some x)(h63:(i:Int) < 2 ^ 63)(hs:seqIndex? (i:Int) items.size=some i)
  (hQ:∀ h',Gj h' it t ((i:Int) - 1)->Heap.SameBut it s.heap h'->Q (some x) { s with heap:=h',toks:=s.toks+1 }):wpAny (model prog w) A (pyNext (.ref it)) Q E s:=by
 have hty:=hi.typeIs
 obtain⟨o,ho,hc,hd⟩:=id hi
 obtain⟨ot,got,gct,nt,gdt⟩:=id ht
 unfold pyNext
 refine wpAny_bind (wpAny_attempt (wpAny_callSpecial?_slot (name:=Str.ofString "__next__") hty slot_next (wpAny_call_entry slot_next hty entry_next ?_ (args_next _))))
 unfold Builtin.«reversed.__next__»
 refine wpAny_bind (wpAny_of_eq rfl ?_)
 show wpAny _ _ (field (.ref it) 0 >>= _) _ _ s
 refine wpAny_bind (wpAny_field ho hd (x:=.ref t) rfl ?_)
 refine wpAny_bind (wpAny_field ho hd (x:=rawInt (i:Int)) rfl ?_)
 show wpAny _ _ (if (i:Int) < 0 then _ else _) _ _ s
 rw[if_neg (by lia)]
 refine wpAny_bind (wpAny_specialOf (T := "tuple") ⟨ot,got,gct⟩ F.slot_tuple_getitem.lookup ?_)
 show wpAny _ _ (if (some (Value.builtin "tuple.__getitem__")).isNone=true then _ else _) _ _ s
 rw[if_neg (by decide)]
 refine wpAny_bind (wpAny_mkInt ?_)
 refine wpAny_bind (wpAny_attempt (PyProof.Rows.getItem_tuple (s:={ s with toks:=s.toks+1 }) hT (by lia) h63 hs hx ?_))
 show wpAny _ _ (field (.ref it) 1 >>= _) _ _ _
 refine wpAny_bind (wpAny_field (s:={ s with toks:=s.toks+1 }) ho hd (x:=rawInt (i:Int)) rfl ?_)
 refine wpAny_bind (wpAny_setField (s:={ s with toks:=s.toks+1 }) ho hd (by simp) (wpAny_pure ⟨x,rfl,wpAny_pure (hQ _ ?_ (Heap.SameBut.update ..))⟩))
 exact⟨_,Heap.get?_update_self _ ho (Obj.isFreed_of_fields (Obj.data_mapFields hd _)),(Obj.cls_mapFields ..).trans hc,by rw[Obj.data_mapFields hd];simp [rawInt]⟩
theorem next_end{it t:Addr}{Q:Option Value->Shared->Prop}(hh:A.handled=none)(hi:Gj s.heap it t (-1))(hQ:∀ h',Heap.ExtBut it s.heap h'->Q none { s with heap:=h' }):wpAny (model prog w) A (pyNext (.ref it)) Q E s:=by
 have hty:=hi.typeIs
 obtain⟨o,ho,hc,hd⟩:=id hi
 unfold pyNext
 refine wpAny_bind (wpAny_attempt (wpAny_callSpecial?_slot (name:=Str.ofString "__next__") hty slot_next (wpAny_call_entry slot_next hty entry_next ?_ (args_next _))))
 unfold Builtin.«reversed.__next__»
 refine wpAny_bind (wpAny_of_eq rfl ?_)
 show wpAny _ _ (field (.ref it) 0 >>= _) _ _ s
 refine wpAny_bind (wpAny_field ho hd (x:=.ref t) rfl ?_)
 refine wpAny_bind (wpAny_field ho hd (x:=rawInt (-1)) rfl ?_)
 show wpAny _ _ (if (-1:Int) < 0 then _ else _) _ _ s
 rw[if_pos (by decide)]
 refine wpAny_bind (wpAny_rule ?_)
 refine wpAny_bind ?_
 show wpAny _ _ (setField (.ref it) 1 (rawInt (-1)) >>= fun _=>setField (.ref it) 0 .none) _ _ _
 refine wpAny_bind (wpAny_setField ho hd (by simp) ?_)
 refine wpAny_setField (Heap.get?_update_self _ ho (Obj.isFreed_of_fields (Obj.data_mapFields hd _))) (Obj.data_mapFields hd _) (by simp) ?_
 refine wpAny_bind ?_
 unfold Builtin.SmallTypes.stopIteration
 show wpAny _ _ (newExc (.type "StopIteration") [] >>= _) _ _ _
 refine wpAny_bind ?_
 simp only[newExc,newTuple]
 refine (wpAny_bind (wpAny_newObj_type ?_ (by size_fits)))
 refine (wpAny_bind (m:=firstArgMember _ _) (wpAny_of_eq (a:=Value.none) (by first | rfl | (simp only[firstArgMember];rfl)) ?_))
 refine (wpAny_newObj_type ?_ (by size_fits))
 simp only[raiseNew]
 refine wpAny_bind (wpAny_handled ?_)
 (first | rw[show A.in1.handled=none from hh] | rw[hh])
 refine (wpAny_bind (wpAny_pure (wpAny_throw ?_)))
 refine wpAny_bind (wpAny_isInstance (T := "StopIteration") (b:=true) ⟨_,Heap.get?_push_size _ rfl,rfl⟩ isSubtype_stop ?_)
 refine wpAny_pure (hQ _ fun b o hb e=>?_)
 exact (((Heap.SameBut.update ..).extBut.push _).push _) b o hb ((Heap.SameBut.update ..).extBut b o hb e)
def El(t:Addr)(i:Int):Obj:={ cls:=.type "reversed",data:=.fields #[.ref t,rawInt i] }
theorem TJ{t:Addr}{items:Array Value}{Q₁:Value->Shared->Prop}(ht:s.heap.IsTuple t items)(hT:PyProof.Rows.IsTup s.heap t items)(hz:(items.size:Int) < 2 ^ 63)
  (hq:Q₁ (.ref s.heap.objs.size) { s with heap:=s.heap.push (El t ((items.size:Int) - 1)),toks:=s.toks+1+1 }) :
  codeAny (model prog w) A (.call (.builtin "reversed.__new__") ⟨[.type "reversed",.ref t],[]⟩) (wants Q₁ E) s:=by
 obtain⟨ot,got,gct,nt,gdt⟩:=id ht
 have hty:s.TypeIs (.ref t) "tuple" := ⟨ot,got,gct⟩
 refine codeAny_of_tree ?_
 show wpAny _ A.in1 (do checkBuiltinCall "reversed.__new__" ⟨[.type "reversed",.ref t],[]⟩;again (.builtin "reversed.__new__" ⟨[.type "reversed",.ref t],[]⟩)) _ _ s
 refine wpAny_bind (wpAny_of_eq (F.newCall_reversed_1 _) (wpAny_pure ⟨plainId_quiet F.plain_reversed_new _,codeAny_builtin F.entry_reversed_new ?_⟩));rw[Around.under_plainId F.plain_reversed_new _]
 have a1:=F.sub_reversed_self
 wp_walk using wpAny_specialOf hty YM
 refine wpAny_of_eq (a:=false) (by rw[isSubtype_type];kernel_rfl) ?_
 rw[if_neg (by decide)]
 refine wpAny_bind (wpAny_specialOf hty F.slot_tuple_getitem.lookup ?_)
 show wpAny _ _ (if (["tuple.__getitem__","str.__getitem__","bytes.__getitem__","bytearray.__getitem__","memoryview.__getitem__","numpy.ndarray.__getitem__","sqlite3.Row.__getitem__"].contains "tuple.__getitem__")=true then _ else _) _ _ s
 rw[if_pos (by decide)]
 refine wpAny_pure ?_
 show wpAny _ _ (if (!true)=true then _ else _) _ _ s
 rw[if_neg (by decide)]
 refine wpAny_bind (PyProof.Rows.len_tuple hT hz ?_)
 refine wpAny_bind (wpAny_of_eq rfl ?_)
 show wpAny _ _ (newObj (.type "reversed") (.fields #[.ref t,rawInt ((items.size:Int) - 1)]) >>= _) _ _ _
 refine wpAny_bind (wpAny_newObj_type ?_)
 exact wpAny_pure hq
theorem TX{t:Addr}{items:Array Value}{Q:Value->Shared->Prop}(ht:s.heap.IsTuple t items)(hT:PyProof.Rows.IsTup s.heap t items)(hz:(items.size:Int) < 2 ^ 63)
  (hQ:Q (.ref s.heap.objs.size) { s with heap:=s.heap.push (El t ((items.size:Int) - 1)),toks:=s.toks+1+1 }):wpAny (model prog w) A (call (.type "reversed") [.ref t]) Q E s:=by
 refine callType_codes (Q₁:=fun obj s₁=>s₁.TypeIs obj "reversed" /\ Q obj s₁) called (F.typeCall_reversed_1 _) F.entry_object_init (TJ ht hT hz ⟨⟨_,Heap.get?_push_size _ rfl,rfl⟩,hQ⟩) fun obj s₁ h₁=>?_
 exact⟨h₁.1,F.args_object_init_2 obj _,object_init_meets called.init.lookup called.made (by decide) prog w A.in1 _ s₁ ⟨h₁.1,rfl,h₁.2⟩⟩
theorem Aa:Slot "reversed" (Str.ofString "__iter__") "reversed.__iter__" :=
 Slot.of (owner := "reversed") (n := "__iter__") (by rw[typeLookup_type,builtinLookup_eq_fast];kernel_rfl) (by decide +kernel) (by decide +kernel) (by decide +kernel) (Or.inl (by decide +kernel)) F.sub_reversed_self
theorem JH:entryFor table "reversed.__iter__" = some Builtin.«dict_keyiterator.__iter__»:=
 entryFor_alias (id' := "dict_keyiterator.__iter__") (by kernel_rfl) (by kernel_rfl) (by decide +kernel) (by kernel_rfl)
theorem Oo(a:Value):argsOk "reversed.__iter__" { pos:=[a] }:=by
 unfold argsOk
 rw[signature?_of (n:=['_','_','r','e','t','i','_','_']) (o:=['d','e','s','r','e','v','e','r']) (by kernel_rfl) Ag]
 kernel_rfl
theorem Ab{it t:Addr}{i:Int}{Q:Value->Shared->Prop}(h:Gj s.heap it t i)(q:Q (.ref it) s):wpAny (model prog w) A (pyIter (.ref it)) Q E s:=
 wpAny_pyIter_slot h.typeIs Aa (wpAny_call_entry Aa h.typeIs JH (wpAny_pure ⟨_,rfl,_,_,h.typeIs,Ao,q⟩) (Oo _))
end
end Rt
end PySem
namespace L2
open PySem PySem.Spec PyProof.Rows
def Itv(K:PySem.W.Frag)(a:Addr)(n:Nat):It:=
 ⟨fun i H => ∃ xs,aH K H a xs/\xs.length=n/\i < n,fun i H v H'=>H'=H/\∀ xs,aH K H a xs->xs[n - 1 - i]? = some v,fun i H=>n<=i⟩
theorem Q5{P:Program}{w:World}{K:PySem.W.Frag}{tg:Expr}(a it:Addr)(n:Nat):Turn P w K tg (Itv K a n) [it] it (fun i h=>i<=n/\Rt.Gj h it a ((n:Int) - 1 - (i:Int))) where
 mem:=by simp
 obj:=fun i h st b hb=>by
  have e:b=it:=by simpa using hb
  subst e
  obtain⟨_,o,e,c,d⟩:=st
  exact⟨o,e,fun v z=>by rw[d]at z;cases z⟩
 keep:=fun i h h' st k=>by
  obtain⟨l,o,e,c,d⟩:=st
  exact⟨l,o,k it (by simp) o e,c,d⟩
 item:=by
  intro X hP hw hK hc i pins s σ H E I hf st hg
  subst hP hw hK
  obtain⟨xs,hq,hl,hi⟩:=hg
  obtain⟨its,rv,p,hz⟩:=I.tuple hq
  have hlen:=rv.length
  have hx:=cj (show n - 1 - i < xs.length by lia)
  obtain⟨u,hu,ru⟩:=rv.get hx
  obtain⟨f0,f1,f2,f3,f4,f5⟩:=hf it (by simp)
  have ei:((n:Int) - 1 - (i:Int))=((n - 1 - i:Nat):Int):=by lia
  have st2:=st.2
  rw[ei]at st2
  have h63:=pO
  refine Rt.next_item st2 (show s.heap.IsTuple a its.toArray from p) p (x:=u) (by simpa using hu) (by lia) ?_ fun h' st' sb=>?_
  ·have hz2:its.toArray.size=n:=by simp only[List.size_toArray];lia
   rw[hz2]
   unfold seqIndex?
   simp
   lia
  have I1:Inv X pins σ H { s with heap:=h',toks:=s.toks+1 }:=I.turned (t':=s.toks+1) (fun b o hb e=>(sb.2 b hb).trans e) f0 f1 f3 f4 f5
  obtain⟨o,e,c,d⟩:=id st'
  refine⟨u,rfl,GP (s:={ s with heap:=h',toks:=s.toks+1 }) e c d (by decide) ⟨_,H,I1,ru,⟨rfl,fun ys hy=>by rw[I.uA hy hq];exact hx⟩,⟨by lia,?_⟩,fun b hb=>(hf b hb).1⟩⟩
  rw[show (n:Int) - 1 - ((i+1:Nat):Int)=((n - 1 - i:Nat):Int) - 1 by lia]
  exact st'
 done:=by
  intro X hP hw hK hc i pins s σ H E I hf st hg
  subst hP hw hK
  have hg:n<=i:=hg
  obtain⟨f0,f1,f2,f3,f4,f5⟩:=hf it (by simp)
  have st2:=st.2
  have st1:=st.1
  rw[show (n:Int) - 1 - (i:Int) = -1 by lia]at st2
  exact Rt.next_end (I.ok.hd hc) st2 fun h' eb=>⟨rfl,I.turned (t':=s.toks) (fun b o hb e=>eb b o hb e) f0 f1 f3 f4 f5⟩
 self:=fun _ _ _ _ _ st h=>Rt.Ab st.2 h
section
variable{X:Cx}{tg:Expr}
def qDL(K:PySem.W.Frag)(ta:TA):TI:=fun σ H R=>ta σ H fun vs H1 => ∃(a:Addr)(xs:List V),vs=[.ref a]/\aH K H1 a xs/\R (Itv K a xs.length) H1
theorem Y5{l:Expr}{ta:TA}{p pos:Pos}(hg:Gl X "reversed")(hm:X.mg "reversed" = none)(ha:PA X [l] ta)(hs:starEach [l] X.env=[(false,eval l X.env)]:=by rfl):PI X tg (.Call (.Name "reversed" p) [l] [] pos) (qDL X.K ta):=by
 intro pins s σ H R I h
 refine Call_ (nU I hg hm PyProof.Rows.boot_reversed (PyProof.Rows.callWith_type1 (cA (ha pos pins s σ H _ I h) fun us s1 ⟨vs,H1,I1,r1,q1⟩=>?_) hs rfl))
 obtain⟨a,xs,e,hq,q⟩:=q1
 subst e
 cases r1 with
 | cons r rr=>
  cases rr
  cases r
  obtain⟨its,rv,p,hz⟩:=I1.tuple hq
  have hl:=rv.length
  have h63:=pO
  refine Rt.TX (show s1.heap.IsTuple a its.toArray from p) p (by simp only[List.size_toArray];lia) ?_
  have st:Rt.Gj (s1.heap.push (Rt.El a ((its.toArray.size:Int) - 1))) s1.heap.objs.size a ((its.toArray.size:Int) - 1):=⟨_,Heap.get?_push_size _ rfl,rfl,rfl⟩
  refine Rt.Ab (s:={ s1 with heap:=s1.heap.push (Rt.El a ((its.toArray.size:Int) - 1)),toks:=s1.toks+1+1 }) st ?_
  have I2:Inv X pins σ H1 { s1 with heap:=s1.heap.push (Rt.El a ((its.toArray.size:Int) - 1)),toks:=s1.toks+1+1 }:=I1.kept (t':=s1.toks+1+1) fun b o e=>Heap.get?_push_of_some _ e
  refine⟨s1.heap.objs.size,[s1.heap.objs.size],_,_,H1,rfl,I2,Q5 a _ xs.length,⟨Nat.zero_le _,?_⟩,fun b hb=>?_,q⟩
  ·have e:((its.toArray.size:Int) - 1)=(xs.length:Int) - 1 - ((0:Nat):Int):=by simp only[List.size_toArray];lia
   rw[<-e]
   exact st
  ·rw[cJ.mp hb]
   exact I1.yx (bu _) (I1.hok.fresh (bu _))
end
end L2
namespace L2
open PySem
section
variable{X:Cx}
theorem YC(hu:X.A.units < cLine):mQ X (compareOp .NotEq) (fun x y H Q => ∃(a b:Addr)(xs:List V),x = .ref a/\y = .ref b/\aH X.K H a xs/\aH X.K H b []/\Q (.bl (!xs.isEmpty)) H):=by
 intro pins s σ H x y v u Q I rx ry h
 obtain⟨a,b,xs,rfl,rfl,ha,hb,q⟩:=h
 cases rx
 cases ry
 obtain⟨its,r1,p1,_⟩:=I.tuple ha
 obtain⟨its2,r2,p2,_⟩:=I.tuple hb
 have l1:=r1.length
 have l2:=r2.length
 have l2':its2.length=0:=l2.symm
 refine SeqAt.RcNeAt.tuples (e:=fun _=>true) p1 p2 hu (fun j h1 h2=>?_) X.prog X.w X.xe _ ?_
 ·have h2':j < its2.length:=by simpa using h2
  lia
 ·have e:(!((List.range (min its.toArray.size its2.toArray.size)).all (fun _=>true) && its.toArray.size == its2.toArray.size)) = !xs.isEmpty:=by
   rw[zc,zc,<-l1,l2']
   cases xs with
   | nil=>simp
   | cons x xs=>simp
  rw[e]
  exact⟨.bl (!xs.isEmpty),H,I,rfl,q⟩
end
end L2
namespace Tr
def qt(ds:List Int)(d:Int):Nat->Option Nat
 | 0=>none
 | j+1=>if ds.getD j 0 < d then some j else qt ds d j
def par(ds:List Int)(k:Nat):Option Nat:=qt ds (ds.getD k 0) k
theorem rB{ds:List Int}{d:Int}:∀ {k j:Nat},j < k->ds.getD j 0 < d->(∀ i,j < i->i < k->d<=ds.getD i 0)->qt ds d k=some j
 | 0,j,h,_,_=>by lia
 | k+1,j,h,hd,ha=>by
  unfold qt
  by_cases e:j=k
  ·subst e
   rw[if_pos hd]
  ·have:=ha k (by lia) (by lia)
   rw[if_neg (by lia)]
   exact rB (by lia) hd fun i h1 h2=>ha i h1 (by lia)
theorem wu{ds:List Int}{d:Int}:∀ {k:Nat},(∀ i,i < k->d<=ds.getD i 0)->qt ds d k=none
 | 0,_=>rfl
 | k+1,h=>by
  unfold qt
  have:=h k (by lia)
  rw[if_neg (by lia)]
  exact wu fun i hi=>h i (by lia)
theorem wz{ds:List Int}{d:Int}:∀ {k j:Nat},qt ds d k=some j->j < k/\ds.getD j 0 < d/\∀ i,j < i->i < k->d<=ds.getD i 0
 | 0,j,h=>by cases h
 | k+1,j,h=>by
  unfold qt at h
  split at h
  ·cases h
   exact⟨by lia,by assumption,fun i h1 h2=>by lia⟩
  ·rename_i hn
   obtain⟨a,b,c⟩:=wz h
   refine⟨by lia,b,fun i h1 h2=>?_⟩
   by_cases e:i=k
   ·subst e
    lia
   ·exact c i h1 (by lia)
theorem eX{ds:List Int}{k j:Nat}(h:par ds k=some j):j < k:=(wz h).1
structure Good(ds:List Int):Prop where
 pos:0 < ds.length
 first:ds.getD 0 0=0
 next:∀ k,k+1 < ds.length->1<=ds.getD (k+1) 0/\ds.getD (k+1) 0<=ds.getD k 0+1
theorem Good.nonneg{ds:List Int}(g:Good ds):∀ k,k < ds.length->0<=ds.getD k 0
 | 0,_=>by rw[g.first];exact Int.le_refl _
 | k+1,h=>by have:=g.next k h;lia
theorem Good.snoc{ds:List Int}{v:Int}(g:Good ds)(h1:1<=v)(h2:v<=ds.getD (ds.length - 1) 0+1):Good (ds++[v]):=by
 have hp:=g.pos
 have old:∀ k,k < ds.length->(ds++[v]).getD k 0=ds.getD k 0:=fun k hk=>by
  rw[jl,jl,List.getElem?_append_left hk]
 have new:(ds++[v]).getD ds.length 0=v:=by
  rw[jl,List.getElem?_append_right (bu _)]
  simp
 refine⟨by simp,by rw[old 0 hp];exact g.first,fun k hk=>?_⟩
 rw[dJ,jj]at hk
 by_cases e:k+1 < ds.length
 ·rw[old _ e,old k (by lia)]
  exact g.next k e
 ·have e':k+1=ds.length:=by lia
  rw[old k (by lia),e',new,show k=ds.length - 1 by lia]
  exact⟨h1,h2⟩
theorem Good.one:Good [0]:=⟨by decide,rfl,fun k h=>by simp at h⟩
structure Above(ds:List Int)(k:Nat)(s:List Nat):Prop where
 len:(s.length:Int)=ds.getD k 0+1
 top:s[(ds.getD k 0).toNat]? = some k
 le:∀(i v:Nat),s[i]? = some v->v<=k/\ds.getD v 0=(i:Int)/\∀ j,v < j->j<=k->(i:Int) < ds.getD j 0
def dZ(ds:List Int)(r n:Nat):List Nat:=(List.range n).filter fun j=>par ds j == some r
def kids(ds:List Int)(r:Nat):List Nat:=dZ ds r ds.length
theorem fZ(ds:List Int)(r n:Nat):dZ ds r (n+1)=dZ ds r n++if par ds n == some r then [n] else []:=by
 unfold dZ
 rw[List.range_succ,List.filter_append]
 congr 1
 rw[List.filter_cons]
 simp
theorem nY(ds:List Int)(r n:Nat):(dZ ds r n).length<=n:=by
 unfold dZ
 refine Nat.le_trans (jh _ _) ?_
 simp
def Py(ds:List Int):Nat->Nat->List Nat
 | 0,_=>[]
 | f+1,k=>match par ds k with
  | none=>[]
  | some j=>j :: Py ds f j
def ups(ds:List Int)(k:Nat):List Nat:=Py ds k k
theorem wG(ds:List Int):∀(f k:Nat),k<=f->Py ds f k=Py ds k k
 | f,0,_=>by
  cases f with
  | zero=>rfl
  | succ f=>rfl
 | 0,k+1,h=>by lia
 | f+1,k+1,h=>by
  show (match par ds (k+1) with | none=>[] | some j=>j :: Py ds f j)=(match par ds (k+1) with | none=>[] | some j=>j :: Py ds k j)
  cases e:par ds (k+1) with
  | none=>rfl
  | some j=>
   have hj:=eX e
   show j :: Py ds f j=j :: Py ds k j
   rw[wG ds f j (by lia),wG ds k j (by lia)]
theorem lF{ds:List Int}{k:Nat}(h:par ds k=none):ups ds k=[]:=by
 unfold ups
 cases k with
 | zero=>rfl
 | succ k=>
  show (match par ds (k+1) with | none=>[] | some j=>j :: Py ds k j)=[]
  rw[h]
theorem jN{ds:List Int}{k j:Nat}(h:par ds k=some j):ups ds k=j :: ups ds j:=by
 have hj:=eX h
 unfold ups
 cases k with
 | zero=>lia
 | succ k=>
  show (match par ds (k+1) with | none=>[] | some j=>j :: Py ds k j)=_
  rw[h]
  show j :: Py ds k j=_
  rw[wG ds k j (by lia)]
theorem ou{ds:List Int}:∀ {k v:Nat},v∈ups ds k->v < k:=by
 intro k
 induction k using Nat.strongRecOn with
 | ind k ih=>
  intro v hv
  cases e:par ds k with
  | none=>
   rw[lF e]at hv
   cases hv
  | some j=>
   have hj:=eX e
   rw[jN e]at hv
   rcases dG.mp hv with rfl | h
   ·exact hj
   ·have:=ih j hj h
    lia
theorem Px(ds:List Int):∀ k:Nat,(ups ds k).Pairwise (· > ·):=by
 intro k
 induction k using Nat.strongRecOn with
 | ind k ih=>
  cases e:par ds k with
  | none=>
   rw[lF e]
   exact .nil
  | some j=>
   rw[jN e]
   exact List.pairwise_cons.mpr ⟨fun v hv=>ou hv,ih j (eX e)⟩
def hall(ds:List Int)(isOne:Nat->Bool)(a b:Nat):Option Nat:=(ups ds a).find? fun x=>(ups ds b).contains x && isOne x
def aJ(ds:List Int)(a b:Nat):Bool:=(ups ds a).contains b
theorem um{ds:List Int}{a b:Nat}(h:par ds a=none):aJ ds a b=false:=by
 unfold aJ
 rw[lF h]
 rfl
theorem iW{ds:List Int}{a b j:Nat}(h:par ds a=some j):aJ ds a b=(j == b || aJ ds j b):=by
 unfold aJ
 rw[jN h,List.contains_cons]
 congr 1
 exact Bool.eq_iff_iff.mpr ⟨fun z=>by simpa using (eq_of_beq z).symm,fun z=>by simpa using (eq_of_beq z).symm⟩
structure yW(ds:List Int)(k e:Nat):Prop where
 lt:k < e
 le:e<=ds.length
 ins:∀ j,k < j->j < e->ds.getD k 0 < ds.getD j 0
 out:e < ds.length->ds.getD e 0<=ds.getD k 0
theorem Eu{ds:List Int}{d:Int}:∀ {k:Nat},qt ds d k=none->∀ i,i < k->d<=ds.getD i 0
 | 0,_,i,h=>by lia
 | k+1,e,i,h=>by
  unfold qt at e
  split at e
  ·cases e
  ·rename_i hn
   by_cases q:i=k
   ·subst q
    lia
   ·exact Eu e i (by lia)
theorem jt{ds:List Int}{k j:Nat}:par ds j=some k ↔ k < j/\ds.getD k 0 < ds.getD j 0/\∀ i,k < i->i < j->ds.getD j 0<=ds.getD i 0:=
 ⟨fun h=>wz h,fun ⟨a,b,c⟩=>rB a b c⟩
theorem qM{ds:List Int}:∀(a b:Nat),b∈ups ds a ↔ b < a/\∀ j,b < j->j<=a->ds.getD b 0 < ds.getD j 0:=by
 intro a
 induction a using Nat.strongRecOn with
 | ind a ih=>
  intro b
  cases e:par ds a with
  | none=>
   rw[lF e]
   refine⟨fun z=>(by cases z),fun ⟨h1,h2⟩=>?_⟩
   have:=Eu e b h1
   have:=h2 a h1 (bu _)
   lia
  | some p=>
   obtain⟨hp,hd,ha⟩:=jt.mp e
   rw[jN e,dG,ih p hp b]
   constructor
   ·rintro (rfl | ⟨h1,h2⟩)
    ·refine⟨hp,fun j j1 j2=>?_⟩
     by_cases q:j=a
     ·rw[q]
      exact hd
     ·have:=ha j j1 (by lia)
      lia
    ·refine⟨by lia,fun j j1 j2=>?_⟩
     by_cases q:j<=p
     ·exact h2 j j1 q
     ·have z:=h2 p h1 (bu _)
      by_cases q2:j=a
      ·rw[q2]
       lia
      ·have:=ha j (by lia) (by lia)
       lia
   ·rintro⟨h1,h2⟩
    by_cases q:b=p
    ·exact .inl q
    ·right
     have z:=h2 a h1 (bu _)
     by_cases q2:p < b
     ·have:=ha b q2 h1
      lia
     ·exact⟨by lia,fun j j1 j2=>h2 j j1 (by lia)⟩
theorem xO{ds:List Int}{a b e:Nat}(h:yW ds b e)(ha:a < ds.length):aJ ds a b=(decide (b < a) && decide (a < e)):=by
 unfold aJ
 rw[Bool.eq_iff_iff,List.contains_iff_mem,qM,Bool.and_eq_true,decide_eq_true_iff,decide_eq_true_iff]
 constructor
 ·rintro⟨h1,h2⟩
  refine⟨h1,?_⟩
  by_cases q:a < e
  ·exact q
  ·have:=h2 e h.lt (by lia)
   have:=h.out (by lia)
   lia
 ·rintro⟨h1,h2⟩
  exact⟨h1,fun j j1 j2=>h.ins j j1 (by lia)⟩
theorem KZ{ds:List Int}(g:Good ds){j k e:Nat}(h:yW ds k e)(hj:j < ds.length):(par ds j=some k) ↔ (k < j/\j < e/\ds.getD j 0=ds.getD k 0+1):=by
 rw[jt]
 constructor
 ·rintro⟨h1,h2,h3⟩
  refine⟨h1,?_,?_⟩
  ·by_cases q:j < e
   ·exact q
   ·have:=h.out (by have:=h.lt;lia)
    by_cases q2:j=e
    ·subst q2
     lia
    ·have:=h3 e h.lt (by lia)
     lia
  ·have n:=g.next k (by lia)
   by_cases q:j=k+1
   ·subst q
    lia
   ·have:=h3 (k+1) (by lia) (by lia)
    lia
 ·rintro⟨h1,h2,h3⟩
  refine⟨h1,by lia,fun i i1 i2=>?_⟩
  have:=h.ins i i1 (by lia)
  lia
theorem rC(ds:List Int)(k:Nat):∀ n,n<=k+1->dZ ds k n=[]
 | 0,_=>rfl
 | n+1,h=>by
  rw[fZ,rC ds k n (by lia),if_neg]
  ·rfl
  ·intro z
   have:=eX (eq_of_beq z)
   lia
theorem uw{ds:List Int}(g:Good ds){k e:Nat}(h:yW ds k e):∀ n,e+n<=ds.length->dZ ds k (e+n)=dZ ds k e
 | 0,_=>rfl
 | n+1,hn=>by
  rw[show e+(n+1)=(e+n)+1 by lia,fZ,uw g h n (by lia),if_neg,dM]
  intro z
  have:=(KZ g h (by lia)).mp (eq_of_beq z)
  lia
theorem Ft{ds:List Int}(g:Good ds){k e:Nat}(h:yW ds k e):kids ds k=dZ ds k e:=by
 have q:=uw g h (ds.length - e) (by have:=h.le;lia)
 rw[show e+(ds.length - e)=ds.length by have:=h.le;lia]at q
 exact q
def bears(ds:List Int)(gs:List Nat)(k:Nat):Bool:=gs.any fun g=>g == k || aJ ds g k
def next(ds:List Int)(al:Nat->Bool)(gs:List Nat)(p:Nat):List Nat:=
 if al p=true then kids ds p else match (kids ds p).find? (bears ds gs) with
  | some k=>[k]
  | none=>(kids ds p).take 1
inductive eZ(ds:List Int)(al:Nat->Bool)(gs:List Nat)(un:Option Nat):Nat->Prop where
 | top:un=none->eZ ds al gs un 0
 | root {p k:Nat}:k∈next ds al gs p->un=some p->eZ ds al gs un k
 | low {p k:Nat}:k∈next ds al gs p->eZ ds al gs un p->eZ ds al gs un k
theorem eZ.kid{ds:List Int}{al:Nat->Bool}{gs:List Nat}{un:Option Nat}{p k:Nat}(h:k∈next ds al gs p)(h':un=some p ∨ eZ ds al gs un p):eZ ds al gs un k:=by
 rcases h' with e | g
 ·exact .root h e
 ·exact .low h g
theorem bC{ds:List Int}{r k:Nat}:k∈kids ds r ↔ k < ds.length/\par ds k=some r:=by
 unfold kids dZ
 rw[dq,List.mem_range]
 exact⟨fun ⟨a,b⟩=>⟨a,eq_of_beq b⟩,fun ⟨a,b⟩=>⟨a,by rw[b];exact beq_self_eq_true _⟩⟩
theorem iD(ds:List Int)(p:Nat):(kids ds p).Pairwise (· < ·):=by
 unfold kids dZ
 exact List.pairwise_lt_range.filter _
theorem lU{ds:List Int}{al:Nat->Bool}{gs:List Nat}{p k:Nat}(h:k∈next ds al gs p):k∈kids ds p:=by
 unfold next at h
 split at h
 ·exact h
 ·split at h
  ·rename_i k' e
   rw[cJ.mp h]
   exact List.mem_of_find?_eq_some e
  ·exact List.mem_of_mem_take h
theorem fJ{ds:List Int}{al:Nat->Bool}{gs:List Nat}{p k:Nat}(h:k∈next ds al gs p):par ds k=some p:=(bC.mp (lU h)).2
theorem vf{ds:List Int}{al:Nat->Bool}{gs:List Nat}{p k:Nat}(h:k∈next ds al gs p):k < ds.length:=(bC.mp (lU h)).1
theorem lV(ds:List Int)(al:Nat->Bool)(gs:List Nat)(p:Nat):(next ds al gs p).Pairwise (· < ·):=by
 unfold next
 split
 ·exact iD ds p
 ·split
  ·exact List.pairwise_singleton _ _
  ·exact (iD ds p).sublist (List.take_sublist _ _)
theorem eZ.lt{ds:List Int}{al:Nat->Bool}{gs:List Nat}{un:Option Nat}{k:Nat}(pos:0 < ds.length)(h:eZ ds al gs un k):k < ds.length:=by
 cases h with
 | top=>exact pos
 | root h _=>exact vf h
 | low h _=>exact vf h
theorem eZ.over{ds:List Int}{al:Nat->Bool}{gs:List Nat}{un:Option Nat}{k:Nat}(h:eZ ds al gs un k):∀ u,un=some u->u < k:=by
 induction h with
 | top e=>intro u e';rw[e]at e';cases e'
 | root h hp=>
  intro u e
  rw[e]at hp
  cases hp
  exact eX (fJ h)
 | low h _ ih=>
  intro u e
  have:=eX (fJ h)
  have:=ih u e
  lia
theorem eZ.iff{ds:List Int}{al:Nat->Bool}{gs:List Nat}{un:Option Nat}{k p:Nat}(h:par ds k=some p):eZ ds al gs un k ↔ k∈next ds al gs p/\(un=some p ∨ eZ ds al gs un p):=by
 constructor
 ·intro g
  cases g with
  | top=>cases h
  | root hk hp=>
   have e:=fJ hk
   rw[h]at e
   cases e
   exact⟨hk,.inl hp⟩
  | low hk hp=>
   have e:=fJ hk
   rw[h]at e
   cases e
   exact⟨hk,.inr hp⟩
 ·rintro⟨a,b⟩
  exact .kid a b
theorem eZ.zero{ds:List Int}{al:Nat->Bool}{gs:List Nat}{un:Option Nat}:eZ ds al gs un 0 ↔ un=none:=by
 constructor
 ·intro g
  cases un with
  | none=>rfl
  | some u=>exact absurd (g.over u rfl) (Nat.not_lt_zero _)
 ·exact .top
structure pX(ds:List Int)(al:Nat->Bool)(gs:List Nat)(un:Option Nat)(gone ahead:List Nat):Prop where
 nd:(gone++ahead).Nodup
 ok:∀ x∈gone++ahead,eZ ds al gs un x
 fr:∀ x∈gone++ahead,par ds x=un ∨ ∃ g∈gone,par ds x=some g
 st:un=none->0∈gone++ahead
 su:∀ u,un=some u->∀ x∈next ds al gs u,x∈gone++ahead
 cl:∀ g∈gone,∀ x∈next ds al gs g,x∈gone++ahead
theorem bK{l:List Nat}(h:l.Pairwise (· < ·)):l.Nodup:=h.imp fun z=>Nat.ne_of_lt z
theorem pX.none(ds:List Int)(al:Nat->Bool)(gs:List Nat):pX ds al gs none [] [0]:=
 ⟨by simp,fun x hx=>by rw[List.mem_singleton.mp hx];exact .top rfl,fun x hx=>by rw[List.mem_singleton.mp hx];exact .inl rfl,fun _=>List.mem_singleton.mpr rfl,fun u e=>(by cases e),fun g hg=>(by cases hg)⟩
theorem pX.some(ds:List Int)(al:Nat->Bool)(gs:List Nat)(u:Nat):pX ds al gs (some u) [] (next ds al gs u):=
 ⟨bK (lV ds al gs u),fun x hx=>.kid hx (.inl rfl),fun x hx=>.inl (fJ hx),fun e=>(by cases e),fun v e x hx=>by cases e;exact hx,fun g hg=>(by cases hg)⟩
theorem pX.step{ds:List Int}{al:Nat->Bool}{gs:List Nat}{un:Option Nat}{gone a:List Nat}{r:Nat}(w:pX ds al gs un gone (a++[r])):pX ds al gs un (gone++[r]) (a++next ds al gs r):=by
 have gr:eZ ds al gs un r:=w.ok r (by simp)
 have sub:∀ x,x∈gone++(a++[r])->x∈(gone++[r])++(a++next ds al gs r):=fun x hx=>by
  simp only[List.mem_append,List.mem_singleton]at hx ⊢
  rcases hx with h | h | h
  ·exact .inl (.inl h)
  ·exact .inr (.inl h)
  ·exact .inl (.inr h)
 have nr:r ∉ gone:=fun z=>by
  have:=(List.nodup_append.mp w.nd).2.2 r z r (by simp)
  exact this rfl
 have new:∀ x∈next ds al gs r,x ∉ gone++(a++[r]):=fun x hx z=>by
  have e:=fJ hx
  rcases w.fr x z with h | ⟨g,hg,h⟩
  ·rw[e]at h
   exact absurd (gr.over r h.symm) (Nat.lt_irrefl _)
  ·rw[e]at h
   cases h
   exact nr hg
 have p1:((gone++[r])++(a++next ds al gs r)).Perm ((gone++(a++[r]))++next ds al gs r):=by
  rw[List.append_assoc,List.append_assoc]
  refine List.Perm.append_left gone ?_
  rw[<-List.append_assoc]
  refine List.Perm.append_right _ ?_
  exact List.perm_append_comm
 refine⟨?_,fun x hx=>?_,fun x hx=>?_,fun e=>sub _ (w.st e),fun u e x hx=>sub _ (w.su u e x hx),fun g hg x hx=>?_⟩
 ·refine p1.nodup_iff.mpr (List.nodup_append.mpr ⟨w.nd,bK (lV ds al gs r),fun x hx y hy e=>?_⟩)
  subst e
  exact new x hy hx
 ·rcases cX.mp (p1.mem_iff.mp hx) with h | h
  ·exact w.ok x h
  ·exact .kid h (.inr gr)
 ·rcases cX.mp (p1.mem_iff.mp hx) with h | h
  ·rcases w.fr x h with h | ⟨g,hg,h⟩
   ·exact .inl h
   ·exact .inr ⟨g,List.mem_append_left _ hg,h⟩
  ·exact .inr ⟨r,by simp,fJ h⟩
 ·rcases cX.mp hg with h | h
  ·exact sub _ (w.cl g h x hx)
  ·rw[cJ.mp h]at hx
   simp [hx]
theorem pX.done{ds:List Int}{al:Nat->Bool}{gs:List Nat}{un:Option Nat}{gone:List Nat}(w:pX ds al gs un gone [])(k:Nat):k∈gone ↔ eZ ds al gs un k:=by
 constructor
 ·intro h
  exact w.ok k (by simpa using h)
 ·intro h
  induction h with
  | top e=>simpa using w.st e
  | root hk hp=>simpa using w.su _ hp _ hk
  | low hk _ ih=>simpa using w.cl _ ih _ hk
theorem cL:∀(n:Nat)(l:List Nat),l.Nodup->(∀ k∈l,k < n)->l.length<=n
 | 0,l,_,h=>by
  cases l with
  | nil=>exact bu _
  | cons x l=>exact absurd (h x List.mem_cons_self) (Nat.not_lt_zero _)
 | n+1,l,hd,h=>by
  have e:=cL n (l.filter (· ≠ n)) (hd.filter _) fun k hk=>by
   obtain⟨a,b⟩:=dq.mp hk
   have:=h k a
   have:k ≠ n:=by simpa using b
   lia
  have:l.length<=(l.filter (· ≠ n)).length+1:=by
   clear e h
   induction l with
   | nil=>exact Nat.zero_le _
   | cons x l ih=>
    obtain⟨h1,h2⟩:=List.nodup_cons.mp hd
    by_cases c:x=n
    ·subst c
     have:l.filter (· ≠ x)=l:=by
      rw[List.filter_eq_self]
      intro a ha
      have:a ≠ x:=fun z=>h1 (z ▸ ha)
      simpa using this
     rw[List.filter_cons,if_neg (by simp),this]
     exact bu _
    ·rw[List.filter_cons,if_pos (by simpa using c),List.length_cons,List.length_cons]
     have:=ih h2
     lia
  lia
theorem pX.len{ds:List Int}{al:Nat->Bool}{gs:List Nat}{un:Option Nat}{gone ahead:List Nat}(pos:0 < ds.length)(w:pX ds al gs un gone ahead):gone.length+ahead.length<=ds.length:=by
 rw[<-dJ]
 exact cL _ _ w.nd fun k hk=>(w.ok k hk).lt pos
def Ov(ds:List Int)(al:Nat->Bool)(gs:List Nat)(un:Option Nat)(os:List Nat):Prop:=os.Pairwise (· < ·)/\∀ k,k∈os ↔ eZ ds al gs un k
theorem Ov.unique{ds:List Int}{al:Nat->Bool}{gs:List Nat}{un:Option Nat}{a b:List Nat}(h1:Ov ds al gs un a)(h2:Ov ds al gs un b):a=b:=
 L2.cQ a b h1.1 h2.1 fun k=>(h1.2 k).trans (h2.2 k).symm
theorem Ov.lt{ds:List Int}{al:Nat->Bool}{gs:List Nat}{un:Option Nat}{os:List Nat}(pos:0 < ds.length)(h:Ov ds al gs un os):∀ o∈os,o < ds.length:=fun o ho=>((h.2 o).mp ho).lt pos
theorem Ov.len{ds:List Int}{al:Nat->Bool}{gs:List Nat}{un:Option Nat}{os:List Nat}(pos:0 < ds.length)(h:Ov ds al gs un os):os.length<=ds.length:=cL _ _ (bK h.1) (h.lt pos)
def pick(ds:List Int)(gs:List Nat)(p:Nat):Nat:=match (kids ds p).find? (bears ds gs) with
 | some k=>k
 | none=>(kids ds p).headD 0
theorem RM{ds:List Int}{al:Nat->Bool}{gs:List Nat}{p k:Nat}(h:al p=false)(hk:k∈kids ds p):next ds al gs p=[pick ds gs p]:=by
 unfold next pick
 rw[if_neg (by rw[h];exact mU)]
 cases e:(kids ds p).find? (bears ds gs) with
 | some j=>rfl
 | none=>
  show (kids ds p).take 1=[(kids ds p).headD 0]
  cases e2:kids ds p with
  | nil=>rw[e2]at hk;cases hk
  | cons x l=>rfl
theorem xJ{ds:List Int}{al:Nat->Bool}{gs:List Nat}{p:Nat}(h:al p=true):next ds al gs p=kids ds p:=by
 unfold next
 rw[if_pos h]
def want(ds:List Int)(on al:Nat->Bool)(os:List Nat)(r:Nat):Nat:=if (decide (r∈os) && al r)=true then (kids ds r).length else if (decide (r∈os) && on r)=true then 1 else 0
def dW(ds:List Int)(os:List Nat)(r:Nat):List Nat:=(kids ds r).filter fun k=>decide (k∈os)
def jC(ds:List Int)(on al:Nat->Bool)(os:List Nat):Prop:=os.Pairwise (· < ·)/\(∀ r,r < ds.length->(dW ds os r).length=want ds on al os r)/\0∈os
theorem Fg{ds:List Int}{os:List Nat}{r k:Nat}:k∈dW ds os r ↔ k∈kids ds r/\k∈os:=by
 unfold dW
 rw[dq,decide_eq_true_iff]
theorem jC.up{ds:List Int}{on al:Nat->Bool}{os:List Nat}(f:jC ds on al os)(lt:∀ o∈os,o < ds.length){k p:Nat}(hk:k∈os)(h:par ds k=some p):p∈os:=by
 have hl:=lt k hk
 have hp:=eX h
 have c:=f.2.1 p (by lia)
 have m:k∈dW ds os p:=Fg.mpr ⟨bC.mpr ⟨hl,h⟩,hk⟩
 have pos:0 < (dW ds os p).length:=List.length_pos_of_mem m
 rw[c]at pos
 unfold want at pos
 by_cases q:p∈os
 ·exact q
 ·rw[decide_eq_false q,Bool.false_and,Bool.false_and,if_neg mU,if_neg mU]at pos
  exact absurd pos (Nat.lt_irrefl _)
theorem jC.ups{ds:List Int}{on al:Nat->Bool}{os:List Nat}(f:jC ds on al os)(lt:∀ o∈os,o < ds.length):∀(k:Nat),k∈os->∀ x,x∈ups ds k->x∈os:=by
 intro k
 induction k using Nat.strongRecOn with
 | ind k ih=>
  intro hk x hx
  cases e:par ds k with
  | none=>
   rw[lF e]at hx
   cases hx
  | some p=>
   rw[jN e]at hx
   have hp:=f.up lt hk e
   rcases dG.mp hx with rfl | h
   ·exact hp
   ·exact ih p (eX e) hp x h
theorem uz{f:Nat->Bool}:∀(l:List Nat),l.find? f=(l.filter f).head?
 | []=>rfl
 | x :: l=>by
  rw[List.find?_cons,List.filter_cons]
  cases e:f x with
  | true=>simp
  | false=>simpa using uz l
theorem xY:∀(l:List Nat)(x:Nat),l.Pairwise (· < ·)->x∈l->(l.filter fun k=>decide (x=k)).length=1
 | [],x,_,h=>(by cases h)
 | y :: l,x,hp,h=>by
  obtain⟨h1,h2⟩:=List.pairwise_cons.mp hp
  rw[List.filter_cons]
  by_cases c:x=y
  ·subst c
   rw[if_pos (by simp),List.length_cons,List.filter_eq_nil_iff.mpr fun k hk=>by
    have:=h1 k hk
    have:x ≠ k:=by lia
    simpa using this]
   rfl
  ·rw[if_neg (by simpa using c)]
   rcases dG.mp h with e | e
   ·exact absurd e c
   ·exact xY l x h2 e
def under(ds:List Int)(k:Nat):Option Nat->Bool
 | none=>true
 | some u=>aJ ds k u
theorem tu{ds:List Int}{un:Option Nat}{k p:Nat}(h:par ds k=some p)(hu:un=some p ∨ under ds p un=true):under ds k un=true:=by
 cases un with
 | none=>rfl
 | some u=>
  show aJ ds k u=true
  rw[iW h,Bool.or_eq_true]
  rcases hu with e | e
  ·injection e with e
   left
   rw[e]
   exact beq_self_eq_true _
  ·exact .inr e
theorem Lx{ds:List Int}{un:Option Nat}{k p:Nat}(h:par ds k=some p)(hu:under ds k un=true):un=some p ∨ under ds p un=true:=by
 cases un with
 | none=>exact .inr rfl
 | some u=>
  have hu':aJ ds k u=true:=hu
  rw[iW h,Bool.or_eq_true]at hu'
  rcases hu' with e | e
  ·left
   rw[eq_of_beq e]
  ·exact .inr e
theorem eZ.under{ds:List Int}{al:Nat->Bool}{gs:List Nat}{un:Option Nat}{k:Nat}(h:eZ ds al gs un k):under ds k un=true:=by
 induction h with
 | top e=>
  subst e
  rfl
 | root hk hp=>exact tu (fJ hk) (.inl hp)
 | low hk _ ih=>exact tu (fJ hk) (.inr ih)
theorem xH{ds:List Int}{u:Nat}:under ds u (some u)=false:=by
 show aJ ds u u=false
 unfold aJ
 rw[Bool.eq_false_iff]
 intro z
 exact Nat.lt_irrefl _ (ou (List.contains_iff_mem.mp z))
theorem M5{ds:List Int}(g:Good ds){on al:Nat->Bool}{os fs ms gs:List Nat}{un:Option Nat}(f:jC ds on al os)(lt:∀ o∈os,o < ds.length)(hun:∀ u,un=some u->u∈os)
  (fit:∀ k p,k < ds.length->par ds k=some p->(al p=true ∨ on p=true)) (hon:∀ p,on p=true->kids ds p ≠ []) (ins:Ov ds al gs un fs) (rise:ms.Pairwise (· < ·))
  (hm:∀ k,k∈ms ↔ ((k∈os/\under ds k un=false) ∨ k∈fs)):jC ds on al ms:=by
 refine⟨rise,fun r hr=>?_,?_⟩
 ·by_cases c:un=some r ∨ under ds r un=true
  ·-- r is the room itself or lies in it
   have rm:r∈ms ↔ (un=some r ∨ eZ ds al gs un r):=by
    rw[hm r,ins.2 r]
    constructor
    ·rintro (⟨h1,h2⟩ | h)
     ·rcases c with c | c
      ·exact .inl c
      ·rw[h2]at c
       cases c
     ·exact .inr h
    ·rintro (h | h)
     ·subst h
      exact .inl ⟨hun r rfl,xH⟩
     ·exact .inr h
   have km:∀ k∈kids ds r,(k∈ms ↔ (k∈Tr.next ds al gs r/\r∈ms)):=fun k hk=>by
    have hp:=(bC.mp hk).2
    have uk:=tu hp c
    rw[hm k,ins.2 k,rm,eZ.iff hp]
    constructor
    ·rintro (⟨_,h⟩ | h)
     ·rw[uk]at h
      cases h
     ·exact h
    ·intro h
     exact .inr h
   unfold dW want
   by_cases ro:r∈ms
   ·have eq:(kids ds r).filter (fun k=>decide (k∈ms))=Tr.next ds al gs r:=by
     refine L2.cQ _ _ ((iD ds r).filter _) (lV _ _ _ _) fun k=>?_
     rw[dq,decide_eq_true_iff]
     exact⟨fun h=>((km k h.1).mp h.2).1,fun h=>⟨lU h,(km k (lU h)).mpr ⟨h,ro⟩⟩⟩
    rw[eq,decide_eq_true ro,Bool.true_and,Bool.true_and]
    cases e:al r with
    | true=>rw[if_pos rfl,xJ e]
    | false=>
     rw[if_neg mU]
     cases hk:kids ds r with
     | nil=>
      have nn:Tr.next ds al gs r=[]:=by
       cases e2:Tr.next ds al gs r with
       | nil=>rfl
       | cons x l=>
        have:x∈kids ds r:=lU (al:=al) (gs:=gs) (by rw[e2];exact List.mem_cons_self)
        rw[hk]at this
        cases this
      rw[nn]
      cases e3:on r with
      | false=>rfl
      | true=>exact absurd hk (hon r e3)
     | cons x l=>
      have hx':x∈kids ds r:=by rw[hk];exact List.mem_cons_self
      rw[RM e hx']
      rcases fit x r (bC.mp hx').1 (bC.mp hx').2 with h | h
      ·rw[e]at h
       cases h
      ·rw[h]
       rfl
   ·rw[decide_eq_false ro,Bool.false_and,Bool.false_and,if_neg mU,if_neg mU,List.filter_eq_nil_iff.mpr fun k hk=>by
     intro z
     exact ro ((km k hk).mp (of_decide_eq_true z)).2]
    rfl
  ·-- elsewhere all is as it was
   have same:∀ k,(k=r ∨ k∈kids ds r)->(k∈ms ↔ k∈os):=fun k hk=>by
    have uk:under ds k un=false:=by
     rw[Bool.eq_false_iff]
     intro z
     rcases hk with e | hk
     ·subst e
      exact c (.inr z)
     ·exact c (Lx (bC.mp hk).2 z)
    rw[hm k]
    constructor
    ·rintro (h | h)
     ·exact h.1
     ·have:=((ins.2 k).mp h).under
      rw[uk]at this
      cases this
    ·intro h
     exact .inl ⟨h,uk⟩
   have q:=f.2.1 r hr
   unfold dW want at q ⊢
   rw[decide_eq_decide.mpr (same r (.inl rfl)),List.filter_congr fun k hk=>decide_eq_decide.mpr (same k (.inr hk))]
   exact q
 ·rw[hm 0,ins.2 0,eZ.zero]
  cases un with
  | none=>exact .inr rfl
  | some u=>
   left
   refine⟨f.2.2,?_⟩
   show aJ ds 0 u=false
   exact um rfl
theorem Rh{ds:List Int}{r:Nat}:∀(x:Nat),aJ ds x r=true->∃ c,par ds c=some r/\(c=x ∨ c∈ups ds x):=by
 intro x
 induction x using Nat.strongRecOn with
 | ind x ih=>
  intro h
  cases e:par ds x with
  | none=>
   rw[um e]at h
   cases h
  | some j=>
   rw[iW e,Bool.or_eq_true]at h
   rcases h with h | h
   ·rw[eq_of_beq h]at e
    exact⟨x,e,.inl rfl⟩
   ·obtain⟨c,hc,hx⟩:=ih j (eX e) h
    refine⟨c,hc,.inr ?_⟩
    rw[jN e]
    rcases hx with hx | hx
    ·rw[hx]
     exact List.mem_cons_self
    ·exact List.mem_cons_of_mem _ hx
theorem Mx{ds:List Int}{on al:Nat->Bool}{os:List Nat}{r:Nat}(f:jC ds on al os)(lt:∀ o∈os,o < ds.length)(ro:r∈os)(ho:on r=true)(ha:al r=false) :
  (os.filter fun o=>aJ ds o r).take 1=os.filter fun o=>par ds o == some r:=by
 have c:=f.2.1 r (lt r ro)
 unfold want at c
 rw[decide_eq_true ro,Bool.true_and,Bool.true_and,ha,if_neg mU,ho,if_pos rfl]at c
 obtain⟨k,hk⟩:∃ k,dW ds os r=[k]:=by
  match dW ds os r,c with
  | [x],_=>exact⟨x,rfl⟩
 have km:∀ x,(x∈os/\par ds x=some r) ↔ x=k:=fun x=>by
  have:x∈dW ds os r ↔ x=k:=by rw[hk,cJ]
  rw[<-this,Fg,bC]
  exact⟨fun ⟨a,b⟩=>⟨⟨lt x a,b⟩,a⟩,fun ⟨⟨_,b⟩,a⟩=>⟨a,b⟩⟩
 obtain⟨ko,kp⟩:=(km k).mpr rfl
 have e1:(os.filter fun o=>par ds o == some r)=[k]:=by
  refine L2.cQ _ _ (f.1.filter _) (List.pairwise_singleton _ _) fun x=>?_
  rw[dq,cJ,<-km x]
  exact⟨fun ⟨a,b⟩=>⟨a,eq_of_beq b⟩,fun ⟨a,b⟩=>⟨a,by rw[b];exact beq_self_eq_true _⟩⟩
 rw[e1]
 have kl:k∈os.filter fun o=>aJ ds o r:=by
  rw[dq]
  refine⟨ko,?_⟩
  rw[iW kp,beq_self_eq_true,Bool.true_or]
 have low:∀ x∈os.filter (fun o=>aJ ds o r),k<=x:=fun x hx=>by
  obtain⟨xo,xl⟩:=dq.mp hx
  obtain⟨c,hc,h⟩:=Rh x xl
  rcases h with h | h
  ·subst h
   rw[(km c).mp ⟨xo,hc⟩]
   exact bu _
  ·have:=(km c).mp ⟨f.ups lt x xo c h,hc⟩
   have:=ou h
   lia
 have rise:=f.1.filter fun o=>aJ ds o r
 generalize (os.filter fun o=>aJ ds o r)=L at kl low rise
 cases L with
 | nil=>cases kl
 | cons y l=>
  have a:=low y List.mem_cons_self
  rcases dG.mp kl with e | e
  ·rw[e]
   rfl
  ·have:=(List.pairwise_cons.mp rise).1 k e
   lia
end Tr
namespace L2
open PySem PySem.Spec PyProof.Rows
section
variable{X:Cx}
theorem cU:mL X (.builtin "isinstance") (fun xs H Q => ∃(x:V)(T:String)(t:Value)(b:Bool),xs=[x,.ty T]/\uX X.K H x t/\PySem.W.kitOne X.K t (.type T)=some b/\Q (.bl b) H):=by
 intro pins s σ H xs us Q I r h
 obtain⟨x,T,t,b,rfl,ty,e,q⟩:=h
 obtain⟨u,w',rfl,r1,r2⟩:=vals2 r
 cases (show w'=Value.type T from r2)
 exact Nv I r1 ty e fun tk=>⟨.bl b,H,I.tok tk,rfl,q⟩
end
end L2
namespace L2
open PySem
theorem vG{c:Bool}{A B:Prop}(h:c=true)(a:A):if c=true then A else B:=by rw[if_pos h];exact a
theorem uQ{c:Bool}{A B:Prop}(h:c=false)(b:B):if c=true then A else B:=by rw[if_neg (by rw[h];decide)];exact b
end L2
namespace oU
open PySem L2
inductive Gd where
 | yes
 | is (b n:Int)
 | under (b n:Int)
 | inn (r:Int)
 | neg (g:Gd)
 | both (g h:Gd)
 | either (g h:Gd)
def Gd.ht:Gd->Nat
 | .yes=>1
 | .is _ _=>1
 | .under _ _=>1
 | .inn _=>1
 | .neg g=>g.ht+1
 | .both g h=>1+max g.ht h.ht
 | .either g h=>1+max g.ht h.ht
theorem Gd.S6:∀ g:Gd,1<=g.ht
 | .yes=>bu _
 | .is _ _=>bu _
 | .under _ _=>bu _
 | .inn _=>bu _
 | .neg _=>Nat.succ_le_succ (Nat.zero_le _)
 | .both _ _=>Nat.le_add_right _ _
 | .either _ _=>Nat.le_add_right _ _
def at0(bx:List Int)(b:Int):Int:=bx.getD b.toNat 0
def Gd.holds(op bx:List Int):Gd->Bool
 | .yes=>true
 | .is b n=>decide (V.int (at0 bx b)=V.int n)
 | .under b n=>decide (at0 bx b < n)
 | .inn r=>inV (.int r) (op.map V.int)
 | .neg g => !(g.holds op bx)
 | .both g h=>g.holds op bx && h.holds op bx
 | .either g h=>g.holds op bx || h.holds op bx
def Gd.ok(nb:Nat):Gd->Prop
 | .yes=>True
 | .is b _=>0<=b/\b < (nb:Int)
 | .under b _=>0<=b/\b < (nb:Int)
 | .inn _=>True
 | .neg g=>g.ok nb
 | .both g h=>g.ok nb/\h.ok nb
 | .either g h=>g.ok nb/\h.ok nb
def aF(H H':Hp):Prop:=∀ b xs,H b=some (.tup xs)->H' b=some (.tup xs)
theorem aF.trans{H H1 H2:Hp}(a:aF H H1)(b:aF H1 H2):aF H H2:=fun c xs h=>b c xs (a c xs h)
theorem aF.of{H H':Hp}(s:aM H H'):aF H H':=fun b xs h=>s b _ h
theorem aF.lst{H:Hp}{p:Addr}{xs:List V}(h:H p=some (.lst xs))(o:HO):aF H (upd H p o):=fun b ys e=>by
 rw[zQ (cC e h (by intro z;cases z))]
 exact e
theorem aF.new{H:Hp}{p:Addr}(h:H p=none)(o:HO):aF H (upd H p o):=.of (zF h o)
theorem cB{H H':Hp}{p:Addr}(hp:H p=none)(s:aM H H')(o:HO):aM H (upd H' p o):=fun b u e=>by
 rw[zQ (zM e hp)]
 exact s b u e
inductive jn(H:Hp):V->Gd->Prop where
 | yes {a:Addr}:H a=some (.tup [.str "yes"])->jn H (.ref a) .yes
 | is {a:Addr} {b n:Int}:H a=some (.tup [.str "is",.int b,.int n])->jn H (.ref a) (.is b n)
 | under {a:Addr} {b n:Int}:H a=some (.tup [.str "under",.int b,.int n])->jn H (.ref a) (.under b n)
 | inn {a:Addr} {r:Int}:H a=some (.tup [.str "in",.int r])->jn H (.ref a) (.inn r)
 | neg {a:Addr} {v:V} {g:Gd}:H a=some (.tup [.str "not",v])->jn H v g->jn H (.ref a) (.neg g)
 | both {a:Addr} {v u:V} {g h:Gd}:H a=some (.tup [.str "both",v,u])->jn H v g->jn H u h->jn H (.ref a) (.both g h)
 | either {a:Addr} {v u:V} {g h:Gd}:H a=some (.tup [.str "either",v,u])->jn H v g->jn H u h->jn H (.ref a) (.either g h)
theorem jn.mono{H H':Hp}{v:V}{g:Gd}(x:jn H v g)(k:aF H H'):jn H' v g:=by
 induction x with
 | yes e=>exact .yes (k _ _ e)
 | is e=>exact .is (k _ _ e)
 | under e=>exact .under (k _ _ e)
 | inn e=>exact .inn (k _ _ e)
 | neg e _ i=>exact .neg (k _ _ e) i
 | both e _ _ i j=>exact .both (k _ _ e) i j
 | either e _ _ i j=>exact .either (k _ _ e) i j
theorem yN{x y:Str}{A B:Prop}(h:¬ x=y)(b:B):if decide (V.str x=V.str y)=true then A else B:=by
 rw[if_neg]
 ·exact b
 ·intro z
  have z':=of_decide_eq_true z
  injection z' with z''
  exact h z''
theorem yO{x:Str}{A B:Prop}(a:A):if decide (V.str x=V.str x)=true then A else B:=by
 rw[if_pos (decide_eq_true rfl)]
 exact a
theorem oH{bx:List Int}{b:Int}(h0:0<=b)(h1:b < (bx.length:Int)):oR (bx.map V.int) b=some (.int (at0 bx b)):=by
 have hk:b.toNat < bx.length:=by lia
 have e:(bx.map V.int)[b.toNat]? = some (.int (at0 bx b)):=by
  rw[qd,cj hk]
  unfold at0
  rw[jl,cj hk]
  rfl
 have q:=yQ e
 rw[Int.toNat_of_nonneg h0]at q
 exact q
theorem lZ(op:List Int):(op.map V.int).all pU=true:=by
 rw[List.all_eq_true]
 intro x hx
 obtain⟨n,_,rfl⟩:=fO.mp hx
 rfl
end oU
namespace tZ
open PySem L2 oU
structure Rm where
 nm:Str
 kind:Str
 depth:Int
 keeps:Str
 Yd:Str
 ins:V
 outs:V
def Jb(H:Hp)(v:V)(r:Rm):Prop:=∃ a:Addr,v = .ref a/\H a=some (.tup [.str r.nm,.str r.kind,.int r.depth,.str r.keeps,.str r.Yd,r.ins,r.outs])
inductive j9(H:Hp):List V->List Rm->Prop where
 | nil:j9 H [] []
 | cons {v:V} {r:Rm} {vs:List V} {rs:List Rm}:Jb H v r->j9 H vs rs->j9 H (v :: vs) (r :: rs)
theorem Jb.mono{H H':Hp}{v:V}{r:Rm}(x:Jb H v r)(k:aF H H'):Jb H' v r:=by
 obtain⟨a,e,h⟩:=x
 exact⟨a,e,k _ _ h⟩
theorem j9.mono{H H':Hp}{vs:List V}{rs:List Rm}(x:j9 H vs rs)(k:aF H H'):j9 H' vs rs:=by
 induction x with
 | nil=>exact .nil
 | cons h _ ih=>exact .cons (h.mono k) ih
theorem j9.length{H:Hp}{vs:List V}{rs:List Rm}(x:j9 H vs rs):vs.length=rs.length:=by
 induction x with
 | nil=>rfl
 | cons _ _ ih=>rw[gC,gC,ih]
theorem j9.snoc{H:Hp}{vs:List V}{rs:List Rm}{v:V}{r:Rm}(x:j9 H vs rs)(y:Jb H v r):j9 H (vs++[v]) (rs++[r]):=by
 induction x with
 | nil=>exact .cons y .nil
 | cons h _ ih=>exact .cons h ih
theorem j9.get{H:Hp}{vs:List V}{rs:List Rm}(x:j9 H vs rs):∀ {k:Nat} {r:Rm},rs[k]? = some r->∃ v,vs[k]? = some v/\Jb H v r:=by
 induction x with
 | nil=>intro k r h;simp at h
 | cons h _ ih=>
  intro k r e
  cases k with
  | zero=>
   simp at e
   subst e
   exact⟨_,rfl,h⟩
  | succ k=>exact ih (by simpa using e)
def cD(H:Hp)(t:Addr)(rs:List Rm):Prop:=∃ vs,H t=some (.tup vs)/\j9 H vs rs
theorem cD.mono{H H':Hp}{t:Addr}{rs:List Rm}(x:cD H t rs)(k:aF H H'):cD H' t rs:=by
 obtain⟨vs,h,r⟩:=x
 exact⟨vs,k _ _ h,r.mono k⟩
def aA(rs:List Rm):List Int:=rs.map (·.depth)
theorem yV(rs:List Rm):(aA rs).length=rs.length:=cM _
theorem cI{rs:List Rm}{k:Nat}{r:Rm}(h:rs[k]? = some r):(aA rs).getD k 0=r.depth:=by
 unfold aA
 rw[jl,qd,h]
 rfl
theorem cD.at{H:Hp}{t:Addr}{rs:List Rm}(x:cD H t rs){k:Nat}(h:k < rs.length):∃(vs:List V)(a:Addr)(r:Rm),H t=some (.tup vs)/\vs.length=rs.length/\rs[k]? = some r/\oR vs ((k:Nat):Int)=some (.ref a)/\H a=some (.tup [.str r.nm,.str r.kind,.int r.depth,.str r.keeps,.str r.Yd,r.ins,r.outs]):=by
 obtain⟨vs,hv,hr⟩:=x
 have e:rs[k]? = some rs[k]:=cj h
 obtain⟨v,h1,a,rfl,h2⟩:=hr.get e
 exact⟨vs,a,rs[k],hv,hr.length,e,yQ h1,h2⟩
def Jl(rs:List Rm):Prop:=∀(k:Nat)(r:Rm),rs[k]? = some r->if k+1 < rs.length/\(aA rs).getD k 0 < (aA rs).getD (k+1) 0 then (r.kind = "one" ∨ r.kind = "all") else r.kind = "plain"
end tZ
namespace yd
open PySem L2 oU
inductive Dd where
 | say (w:Str)
 | set (b n:Int)
 | add (b n:Int)
 | send (e:Int)
inductive uY(H:Hp):V->Dd->Prop where
 | say {a:Addr} {w:Str}:H a=some (.tup [.str "say",.str w])->uY H (.ref a) (.say w)
 | set {a:Addr} {b n:Int}:H a=some (.tup [.str "set",.int b,.int n])->uY H (.ref a) (.set b n)
 | add {a:Addr} {b n:Int}:H a=some (.tup [.str "add",.int b,.int n])->uY H (.ref a) (.add b n)
 | send {a:Addr} {e:Int}:H a=some (.tup [.str "send",.int e])->uY H (.ref a) (.send e)
theorem uY.mono{H H':Hp}{v:V}{d:Dd}(x:uY H v d)(k:aF H H'):uY H' v d:=by
 cases x with
 | say e=>exact .say (k _ _ e)
 | set e=>exact .set (k _ _ e)
 | add e=>exact .add (k _ _ e)
 | send e=>exact .send (k _ _ e)
def Dd.upd(sz bx:List Int):Dd->List Int
 | .set b n=>bx.set b.toNat n
 | .add b n=>bx.set b.toNat ((at0 bx b+n) % at0 sz b)
 | _=>bx
def Dd.box:Dd->Option Int
 | .set b _=>some b
 | .add b _=>some b
 | _=>none
def Dd.ok(nb:Nat)(d:Dd):Prop:=∀ b,d.box=some b->0<=b/\b < (nb:Int)
theorem Dd.Jo(sz bx:List Int)(d:Dd):(d.upd sz bx).length=bx.length:=by
 cases d <;> simp [Dd.upd]
theorem Lj{xs:List Int}{b:Int}(h0:0<=b)(h1:b < (xs.length:Int)):at0 xs b∈xs:=by
 unfold at0
 have hk:b.toNat < xs.length:=by lia
 rw[jl,cj hk]
 exact fB hk
def zy:Sp:=fun vs H Q _ => ∃(vd:V)(tb ts:Addr)(d:Dd)(bx sz:List Int),vs=[vd,.ref tb,.ref ts]/\uY H vd d/\H tb=some (.tup (bx.map V.int))/\H ts=some (.tup (sz.map V.int))/\d.ok bx.length/\bx.length=sz.length/\bx.length<=6/\(∀ z∈sz,0 < z) ∧
 ∀(t:Addr)(H':Hp),aM H H'->H' t=some (.tup ((d.upd sz bx).map V.int))->Q (.ref t) H'
end yd
namespace Ds
open PySem L2 oU
abbrev LA:=Hp->Addr->List Addr->Nat->List Int->Prop
structure qCE(C:Addr)(L:LA):Prop where
 keep:∀ {H H':Hp} {p:Addr} {fp:List Addr} {m:Nat} {l:List Int},L H p fp m l->(∀ b∈fp,∀ o,H b=some o->H' b=some o)->L H' p fp m l
 there:∀ {H:Hp} {p:Addr} {fp:List Addr} {m:Nat} {l:List Int},L H p fp m l->∀ b∈fp,H b ≠ none
 obj:∀ {H:Hp} {p:Addr} {fp:List Addr} {m:Nat} {l:List Int},L H p fp m l->∃(dx:Addr)(fs:List (Str × V)),H p=some (.ins C dx fs)/\fs.lookup ("add" : Str)=none/\fs.lookup ("taken" : Str)=none/\fs.lookup ("waiting" : Str)=none
structure cP(H H':Hp)(fp fp':List Addr):Prop where
 own:∀ b∈fp',b∈fp ∨ H b=none
 rest:∀ b o,H b=some o->b ∉ fp->H' b=some o
def added(m:Nat)(l:List Int)(e:Int):List Int:=if l.length < m then l++[e] else l
theorem Oq{m:Nat}{l:List Int}{e:Int}(h:l.length<=m):(added m l e).length<=m:=by
 unfold added
 split
 ·rw[dJ,jj]
  lia
 ·exact h
def first:List Int->V
 | []=>.non
 | e :: _=>.int e
def QH(C:Addr)(L:LA):Sp:=fun vs H Q _ => ∃(p dx:Addr)(m:Nat),vs=[.ref p,.int (m:Int)]/\H p=some (.ins C dx [])/\m<=12/\∀(fp:List Addr)(H':Hp),L H' p fp m []->(∀ b∈fp,b=p ∨ H b=none)->(∀ b o,H b=some o->b ≠ p->H' b=some o)->Q .non H'
def Wm(L:LA):Sp:=fun vs H Q _ => ∃(p:Addr)(fp:List Addr)(m:Nat)(l:List Int)(e:Int),vs=[.ref p,.int e]/\L H p fp m l/\l.length<=m/\m<=12/\∀(fp':List Addr)(H':Hp),L H' p fp' m (added m l e)->cP H H' fp fp'->Q (.bl (decide (l.length < m))) H'
def Jr(L:LA):Sp:=fun vs H Q _ => ∃(p:Addr)(fp:List Addr)(m:Nat)(l:List Int),vs=[.ref p]/\L H p fp m l/\l.length<=m/\m<=12/\∀(fp':List Addr)(H':Hp),L H' p fp' m l.tail->cP H H' fp fp'->Q (first l) H'
def zj(L:LA):Sp:=fun vs H Q _ => ∃(p:Addr)(fp:List Addr)(m:Nat)(l:List Int),vs=[.ref p]/\L H p fp m l/\l.length<=m/\m<=12/\∀(q:Addr)(fp':List Addr)(H':Hp),L H' p fp' m l->cP H H' fp fp'->H q=none->q ∉ fp'->H' q=some (.lst (l.map V.int))->Q (.ref q) H'
end Ds
namespace yd
open PySem L2 oU Ds
inductive Rc where
 | say (w:Str)
 | put (b v:Int)
 | send (e:Int)
 | lost (e:Int)
def Rc.row:Rc->List V
 | .say w=>[.str "say",.str w]
 | .put b v=>[.str "put",.int b,.int v]
 | .send e=>[.str "send",.int e]
 | .lost e=>[.str "lost",.int e]
inductive jd(H:Hp):List V->List Rc->Prop where
 | nil:jd H [] []
 | cons {a:Addr} {r:Rc} {vs:List V} {rs:List Rc}:H a=some (.tup r.row)->jd H vs rs->jd H (.ref a :: vs) (r :: rs)
theorem jd.mono{H H':Hp}{vs:List V}{rs:List Rc}(x:jd H vs rs)(k:aF H H'):jd H' vs rs:=by
 induction x with
 | nil=>exact .nil
 | cons h _ ih=>exact .cons (k _ _ h) ih
theorem jd.length{H:Hp}{vs:List V}{rs:List Rc}(x:jd H vs rs):vs.length=rs.length:=by
 induction x with
 | nil=>rfl
 | cons _ _ ih=>rw[gC,gC,ih]
theorem jd.snoc{H:Hp}{vs:List V}{rs:List Rc}{a:Addr}{r:Rc}(x:jd H vs rs)(y:H a=some (.tup r.row)):jd H (vs++[.ref a]) (rs++[r]):=by
 induction x with
 | nil=>exact .cons y .nil
 | cons h _ ih=>exact .cons h ih
inductive fc(H:Hp):List V->List Dd->Prop where
 | nil:fc H [] []
 | cons {v:V} {d:Dd} {vs:List V} {ds:List Dd}:uY H v d->fc H vs ds->fc H (v :: vs) (d :: ds)
theorem fc.mono{H H':Hp}{vs:List V}{ds:List Dd}(x:fc H vs ds)(k:aF H H'):fc H' vs ds:=by
 induction x with
 | nil=>exact .nil
 | cons h _ ih=>exact .cons (h.mono k) ih
theorem fc.length{H:Hp}{vs:List V}{ds:List Dd}(x:fc H vs ds):vs.length=ds.length:=by
 induction x with
 | nil=>rfl
 | cons _ _ ih=>rw[gC,gC,ih]
theorem fc.snoc{H:Hp}{vs:List V}{ds:List Dd}{v:V}{d:Dd}(x:fc H vs ds)(y:uY H v d):fc H (vs++[v]) (ds++[d]):=by
 induction x with
 | nil=>exact .cons y .nil
 | cons h _ ih=>exact .cons h ih
theorem fc.get{H:Hp}{vs:List V}{ds:List Dd}(x:fc H vs ds):∀ {k:Nat} {v:V},vs[k]? = some v->∃ d,ds[k]? = some d/\uY H v d:=by
 induction x with
 | nil=>intro k v h;simp at h
 | cons h _ ih=>
  intro k v e
  cases k with
  | zero=>
   simp at e
   subst e
   exact⟨_,rfl,h⟩
  | succ k=>exact ih (by simpa using e)
def Dd.X4(m:Nat)(l:List Int):Dd->List Int
 | .send e=>added m l e
 | _=>l
def Dd.rc(sz:List Int)(m:Nat)(bx l:List Int):Dd->Rc
 | .say w=>.say w
 | .set b n=>.put b (at0 ((Dd.set b n).upd sz bx) b)
 | .add b n=>.put b (at0 ((Dd.add b n).upd sz bx) b)
 | .send e=>if l.length < m then .send e else .lost e
def oX(sz:List Int):List Dd->List Int->List Int
 | [],bx=>bx
 | d :: ds,bx=>oX sz ds (d.upd sz bx)
def oW(m:Nat):List Dd->List Int->List Int
 | [],l=>l
 | d :: ds,l=>oW m ds (d.X4 m l)
def kZ(sz:List Int)(m:Nat):List Dd->List Int->List Int->List Rc
 | [],_,_=>[]
 | d :: ds,bx,l=>d.rc sz m bx l :: kZ sz m ds (d.upd sz bx) (d.X4 m l)
theorem uI(sz:List Int)(d:Dd):∀(ds:List Dd)(bx:List Int),oX sz (ds++[d]) bx=d.upd sz (oX sz ds bx)
 | [],bx=>rfl
 | x :: ds,bx=>uI sz d ds _
theorem uH(m:Nat)(d:Dd):∀(ds:List Dd)(l:List Int),oW m (ds++[d]) l=d.X4 m (oW m ds l)
 | [],l=>rfl
 | x :: ds,l=>uH m d ds _
theorem uG(sz:List Int)(m:Nat)(d:Dd):∀(ds:List Dd)(bx l:List Int),kZ sz m (ds++[d]) bx l=kZ sz m ds bx l++[d.rc sz m (oX sz ds bx) (oW m ds l)]
 | [],bx,l=>rfl
 | x :: ds,bx,l=>by
  show _ :: kZ sz m (ds++[d]) _ _=_ :: (kZ sz m ds _ _++_)
  rw[uG sz m d ds]
  rfl
theorem sI(sz:List Int):∀(ds:List Dd)(bx:List Int),(oX sz ds bx).length=bx.length
 | [],bx=>rfl
 | d :: ds,bx=>by
  show (oX sz ds (d.upd sz bx)).length=_
  rw[sI sz ds,d.Jo]
theorem sH{m:Nat}:∀(ds:List Dd)(l:List Int),l.length<=m->(oW m ds l).length<=m
 | [],l,h=>h
 | d :: ds,l,h=>by
  show (oW m ds (d.X4 m l)).length<=m
  refine sH ds _ ?_
  cases d with
  | send e=>exact Oq h
  | _=>exact h
theorem pL(sz:List Int)(m:Nat):∀(ds:List Dd)(bx l:List Int),(kZ sz m ds bx l).length=ds.length
 | [],_,_=>rfl
 | d :: ds,bx,l=>by
  show (kZ sz m ds _ _).length+1=ds.length+1
  rw[pL sz m ds]
def xf(fp:List Addr)(H:Hp):Hp:=fun b=>if b∈fp then none else H b
theorem qT{fp:List Addr}{H:Hp}{b:Addr}{o:HO}(h:xf fp H b=some o):H b=some o/\b ∉ fp:=by
 unfold xf at h
 split at h
 ·cases h
 ·exact⟨h,by assumption⟩
theorem tK{fp:List Addr}{H:Hp}{b:Addr}{o:HO}(h:H b=some o)(n:b ∉ fp):xf fp H b=some o:=by
 unfold xf
 rw[if_neg n]
 exact h
theorem Ld{fp:List Addr}{H:Hp}{b:Addr}(h:b∈fp):xf fp H b=none:=by
 unfold xf
 rw[if_pos h]
def QK(L:LA):Sp:=fun vs H Q _ => ∃(td tb ts p:Addr)(ds:List Dd)(bx sz l:List Int)(dv:List V)(fp:List Addr)(m:Nat)(G:Hp),vs=[.ref td,.ref tb,.ref ts,.ref p]/\aM G H/\(∀ b∈fp,G b=none)/\G td=some (.tup dv)/\fc G dv ds/\G tb=some (.tup (bx.map V.int))/\G ts=some (.tup (sz.map V.int))/\L H p fp m l ∧
 (∀ d∈ds,d.ok bx.length)/\ds.length<=8/\bx.length=sz.length/\bx.length<=6/\(∀ z∈sz,0 < z)/\l.length<=m/\m<=12 ∧
 ∀(t tb' pr:Addr)(rv:List V)(fp':List Addr)(H':Hp),L H' p fp' m (oW m ds l)->cP H H' fp fp'->H' t=some (.tup [.ref tb',.ref pr])->H' tb'=some (.tup ((oX sz ds bx).map V.int))->tb' ∉ fp'->H' pr=some (.lst rv)->H pr=none->jd H' rv (kZ sz m ds bx l)->Q (.ref t) H'
end yd
namespace L2
open PySem
section
variable{X:Cx}{es:List Expr}{te:TE}{t:TA}
theorem qBC{o:UnaryOp}{e:Expr}{p:Pos}(ha:PE X (.UnaryOp o e p) te)(hr:PA X es t):PA X (.UnaryOp o e p :: es) (Q6 te t):=zA ha hr rfl
theorem qD4{o:Operator}{a b:Expr}{p:Pos}(ha:PE X (.BinOp a o b p) te)(hr:PA X es t):PA X (.BinOp a o b p :: es) (Q6 te t):=zA ha hr rfl
end
end L2
namespace L2
open PySem PySem.Spec PyProof.Rows
section
variable{X:Cx}{a b c:Expr}{ta tb tc:TE}{pos:Pos}
def qAX(p p':Int->Int->Bool)(ta tb tc:TE):TE:=fun σ H Q=>ta σ H fun x H1=>tb σ H1 fun y H2 => ∃ i j k,x = .int i/\y = .int j/\tc σ H2 (fun z H3=>z = .int k/\H3=H2)/\Q (.bl (p i j && p' j k)) H2
theorem Y7{op op':CmpOp}{p p':Int->Int->Bool}(ho:mQ X (compareOp op) (MF fun i j=>.bl (p i j)))(ho':mQ X (compareOp op') (MF fun i j=>.bl (p' i j)))(ha:PE X a ta)(hb:PE X b tb)(hc:PE X c tc)
  (hm:lastMarks [op,op'] [b,c]=false:=by with_unfolding_all rfl):PE X (.Compare a [op,op'] [b,c] pos) (qAX p p' ta tb tc):=by
 intro pins s σ H Q I h
 refine Compare_chain (cA (ha pins s σ H _ I h) fun v s1 ⟨x,H1,I1,r1,q1⟩=>chain_link (cA (hb pins s1 σ H1 _ I1 q1) fun u s2 ⟨y,H2,I2,r2,q2⟩=>?_)) hm
 obtain⟨i,j,k,rfl,rfl,tq,q⟩:=q2
 refine cA (ho pins s2 σ H2 _ _ v u (fun z H3=>z = .bl (p i j)/\H3=H2) I2 r1 r2 ⟨i,j,rfl,rfl,rfl,rfl⟩) fun d s3 ⟨z,H3,I3,r3,e1,e2⟩=>?_
 subst e1 e2
 cases r3
 refine wpAny_truthy_bool ?_
 cases e:p i j with
 | false=>
  rw[e,Bool.false_and]at q
  exact ite_ff ⟨.bl false,_,I3,rfl,q⟩
 | true=>
  rw[e,Bool.true_and]at q
  exact ite_tt (chain_last (cA (hc pins s3 σ _ _ I3 tq) fun w' s4 ⟨z',H4,I4,r4,e3,e4⟩=>by
   subst e3 e4
   exact ho' pins s4 σ _ _ _ u w' Q I4 r2 r4 ⟨j,k,rfl,rfl,q⟩))
theorem Xz{op op':CmpOp}{p p':Int->Int->Bool}(ho:mQ X (compareOp op) (MF fun i j=>.bl (p i j)))(ho':mQ X (compareOp op') (MF fun i j=>.bl (p' i j)))(ha:PE X a ta)(hb:PE X b tb)(hc:PE X c tc)
  (hm:lastMarks [op,op'] [b,c]=false:=by with_unfolding_all rfl):PT X (.Compare a [op,op'] [b,c] pos) (Wj (qAX p p' ta tb tc)):=by
 intro pins s σ H Q I h
 refine isTrue_chain (cA (ha pins s σ H _ I h) fun v s1 ⟨x,H1,I1,r1,q1⟩=>test_link (cA (hb pins s1 σ H1 _ I1 q1) fun u s2 ⟨y,H2,I2,r2,q2⟩=>?_)) hm
 obtain⟨i,j,k,rfl,rfl,tq,kk,ek,q⟩:=q2
 cases ek
 refine cA (ho pins s2 σ H2 _ _ v u (fun z H3=>z = .bl (p i j)/\H3=H2) I2 r1 r2 ⟨i,j,rfl,rfl,rfl,rfl⟩) fun d s3 ⟨z,H3,I3,r3,e1,e2⟩=>?_
 subst e1 e2
 cases r3
 refine wpAny_truthy_bool ?_
 cases e:p i j with
 | false=>
  rw[e,Bool.false_and]at q
  exact ite_ff ⟨_,I3,q⟩
 | true=>
  rw[e,Bool.true_and]at q
  refine ite_tt (test_last (cA (hc pins s3 σ _ _ I3 tq) fun w' s4 ⟨z',H4,I4,r4,e3,e4⟩=>?_))
  subst e3 e4
  refine cA (ho' pins s4 σ _ _ _ u w' (fun z H5=>z = .bl (p' j k)/\H5=H4) I4 r2 r4 ⟨j,k,rfl,rfl,rfl,rfl⟩) fun d' s5 ⟨z2,H5,I5,r5,e5,e6⟩=>?_
  subst e5 e6
  cases r5
  exact wpAny_truthy_bool ⟨_,I5,q⟩
end
theorem cW{c:Bool}{A B:Prop}(h1:c=true->A)(h2:c=false->B):if c=true then A else B:=by
 cases c with
 | true=>
  rw[if_pos rfl]
  exact h1 rfl
 | false=>
  rw[if_neg mU]
  exact h2 rfl
section
variable{X:Cx}
end
end L2
namespace mR
open PySem L2
def Bp(K:PySem.W.Frag):Sp:=fun vs H Q _ => ∃(a:Addr)(ns:List Int)(k:Int),vs=[.ref a,.int k]/\aX K H a (ns.map V.int)/\ns.length<=63/\∀ v:Int,Q (.int v) H
def gF(K:PySem.W.Frag):Sp:=fun vs H Q _ => ∃(a:Addr)(ns:List Int)(k salt:Int),vs=[.ref a,.int k,.int salt]/\aX K H a (ns.map V.int)/\ns.length<=63/\(0<=k/\k<=1000000)/\(0<=salt/\salt<=1000) ∧
 ∀ r:Int,0<=r->r < 2147483648->Q (.int r) H
section
variable{P:Program}{w:World}{K:PySem.W.Frag}{mg:Str->Option Value}{base:Heap}
theorem scC:aN ["_law_script","_law_k"] ["_law_script","_law_k"] (aG KD):=⟨rfl,rfl,rfl,by decide +kernel,rfl,by decide +kernel,by decide +kernel⟩
theorem Va{f:Addr}{fd:FuncData}(F:cZ K "_law_cell_at" "_law_cell_at" KD f fd)(ml:mg "len" = none):aL P w K mg base aq 1 f fd ["_law_script","_law_k"] (Bp K):=by
 refine F.ok scC (fun vs H Q E h=>?_) (fun cdv A outer s H vs Q E hr h=>?_)
 ·refine aK fun G_ g_=>?_
  obtain⟨a,ns,k,rfl,_⟩:=h
  refine g_ ?_;clear g_
  rfl
 refine aK fun G_ g_=>?_
 obtain⟨a,ns,k,rfl,hS,h63,q⟩:=h
 refine g_ ?_;clear g_
 refine⟨_,zE (yD (zL yG (zS zN rfl ml PySem.boot_len (zA (pv 0) zD)) zB (zR _)) (zG (zO zB)) zT)
  (zG (zO (yB yU (pv 0) (yC zY (pv 1) (zS zN rfl ml PySem.boot_len (zA (pv 0) zD))) (fun _ _=>rfl)))),?_⟩
 have hl:(ns.map V.int).length=ns.length:=cM _
 refine⟨_,rfl,a,_,rfl,.inl hS,rfl,_,rfl,?_⟩
 refine oZ (fun c=>?_) (fun c=>?_)
 ·exact q 0
 ·have c':¬ V.int (((ns.map V.int).length:Nat):Int)=V.int 0:=of_decide_eq_false (Bool.eq_false_iff.mpr c)
  have hp:(0:Int) < (((ns.map V.int).length:Nat):Int):=by
   rw[hl]at c' ⊢
   have:ns.length ≠ 0:=fun z=>c' (by rw[z];rfl)
   lia
  obtain⟨v,hv⟩:=Li (ns:=ns) (i:=k % (((ns.map V.int).length:Nat):Int)) (Int.emod_nonneg _ (by lia)) (by have:=Int.emod_lt_of_pos k hp;rw[hl]at this ⊢;exact this)
  exact⟨_,rfl,_,rfl,_,rfl,a,_,rfl,.inl hS,_,_,rfl,rfl,hp,a,_,_,_,rfl,rfl,hS,hv,q v⟩
theorem scM:aN ["_law_script","_law_k","_law_salt","_law_cell",qB4] ["_law_script","_law_k","_law_salt"] (aG Bv):=⟨rfl,rfl,rfl,by decide +kernel,rfl,by decide +kernel,by decide +kernel⟩
theorem qu{i j:Int}(h0:0<=i)(h1:i < 18446744073709551616):Wh i j:=.inl ⟨by lia,by lia⟩
theorem Qv{f g:Addr}{fd gd:FuncData}(F:cZ K "_law_mixed" "_law_mixed" Bv f fd)(G:aL P w K mg base aq 1 g gd ["_law_script","_law_k"] (Bp K))(bG:Binds K gd ["_law_script","_law_k"] [])(kG:KI K g)(mG:mg "_law_cell_at" = some (.ref g))
  (ml:mg "len" = none) (mm:mg "max" = none):aL P w K mg base aq 2 f fd ["_law_script","_law_k","_law_salt"] (gF K):=by
 refine F.ok scM (fun vs H Q E h=>?_) (fun cdv A outer s H vs Q E hr h=>?_)
 ·refine aK fun G_ g_=>?_
  obtain⟨a,ns,k,salt,rfl,_⟩:=h
  refine g_ ?_;clear g_
  rfl
 refine aK fun G_ g_=>?_
 obtain⟨a,ns,k,salt,rfl,hS,h63,hk,hs,q⟩:=h
 refine g_ ?_;clear g_
 refine⟨_,(zE (zK (i:=3) scM.nd rfl (Or.inl rfl) (zJ G hr rfl mG kG bG .nil yE (zA (pv 0) (zA (pv 1) zD))))
  (zE (zK (i:=4) scM.nd rfl (Or.inl rfl) (yC yF (yC yF (yC yF (yC Qq (pv 3) zB) (yC gM (yC gM zB (pv 1)) (pv 1))) (yC gM (yC gM zB (pv 2)) (pv 2))) zB))
  (zE (zK (i:=4) scM.nd rfl (Or.inl rfl) (yC zY (yC Hl (yC zY (yC gM (pv 4) zB) zB) zB) zB))
  (zG (zO (yC Qq (yC yF (yC YB (pv 3) (yC gM zB (yC yF (pv 2) (yC gM zB (yC yL (pv 1) (zS (Oc rfl) rfl mm PyProof.Rows.boot_max (zA zB (zA (zS zN rfl ml PySem.boot_len (zA (pv 0) zD)) zD)))))))) (pv 4)) zB)))))),?_⟩
 have hl:(ns.map V.int).length=ns.length:=cM _
 refine⟨_,rfl,_,rfl,a,ns,k,rfl,hS,h63,fun v=>?_⟩
 refine⟨_,rfl,bF ⟨_,rfl,bF ⟨qu (by decide) (by decide),_,rfl,bF ⟨qu (by lia) (by lia),_,_,rfl,rfl,_,rfl,bF ⟨qu (by decide) (by decide),_,rfl,bF ⟨qu (by lia) (by lia),_,_,rfl,rfl,bF ?_⟩⟩⟩⟩⟩⟩
 have b1:=Int.emod_nonneg ((Builtin.bitAnd v 2147483647+1009 * k * k+7919 * salt * salt+12) * 48271) (show (2147483647:Int) ≠ 0 by decide)
 have b2:=Int.emod_lt_of_pos ((Builtin.bitAnd v 2147483647+1009 * k * k+7919 * salt * salt+12) * 48271) (show (0:Int) < 2147483647 by decide)
 refine⟨_,rfl,bF ⟨.inr ⟨by decide,by decide⟩,_,_,rfl,rfl,(by show (0:Int) < 2147483647;decide),_,_,rfl,rfl,?_,_,_,rfl,rfl,(by show (0:Int) < 2147483629;decide),?_⟩⟩
 ·exact⟨by decide,by decide,by lia⟩
 have hM:0 < (if (((ns.map V.int).length:Nat):Int) > 1 then (((ns.map V.int).length:Nat):Int) else 1)/\(if (((ns.map V.int).length:Nat):Int) > 1 then (((ns.map V.int).length:Nat):Int) else 1) < 1073741824:=by
  rw[hl]
  split <;> lia
 have qE3:0<=k / (if (((ns.map V.int).length:Nat):Int) > 1 then (((ns.map V.int).length:Nat):Int) else 1):=Int.ediv_nonneg hk.1 (Int.le_of_lt hM.1)
 refine⟨_,rfl,_,rfl,_,rfl,_,rfl,a,_,rfl,.inl hS,_,_,rfl,bF ⟨hM,_,_,rfl,rfl,qu (by decide) (by decide),_,_,rfl,rfl,bF ⟨qu (by decide) (by decide),_,_,rfl,rfl,?_,_,rfl,bF (bF ?_)⟩⟩⟩
 ·have nn:∀ lap:Int,0<=lap->0<=31 * (salt+128 * lap):=fun lap h=>by lia
  exact nn _ qE3
 ·exact q _ (Wz _).1 (Wz _).2
end
end mR
namespace mR
open PySem L2 oU
def pV:Option Nat->V
 | none=>.non
 | some j=>.int (j:Int)
def aB(s:List Nat):List V:=s.map fun j:Nat=>V.int (j:Int)
theorem tH(xs:List V){d:Int}(h:0<=d):lu xs none (some d)=xs.take d.toNat:=by
 show (xs.drop 0).take ((if d < 0 then (d+(xs.length:Int)).toNat else min d.toNat xs.length) - 0)=_
 rw[if_neg (by lia),List.drop_zero,Nat.sub_zero,List.take_eq_take_iff]
 lia
end mR
namespace mR
open PySem L2 oU tZ
theorem gq(os:List Nat):(aB os).all pU=true:=by
 rw[List.all_eq_true]
 intro x hx
 obtain⟨n,_,rfl⟩:=fO.mp hx
 rfl
theorem Kf{os:List Nat}{j:Int}(h:inV (.int j) (aB os)=true):∃ o∈os,(o:Int)=j:=by
 unfold inV aB at h
 rw[List.any_map,List.any_eq_true]at h
 obtain⟨o,ho,e⟩:=h
 exact⟨o,ho,by simpa [Ua] using e⟩
theorem xK{os:List Nat}{i:Int}(h0:0<=i)(h1:i < (os.length:Int)):∃ o∈os,oR (aB os) i=some (.int (o:Int)):=by
 obtain⟨v,hv,e⟩:=mJ (xs:=aB os) (i:=i) h0 (by unfold aB;rw[cM];exact h1)
 obtain⟨o,ho,rfl⟩:=fO.mp hv
 exact⟨o,ho,e⟩
theorem zU(os:List Nat):(aB os).length=os.length:=cM _
theorem iB(os:List Nat)(k:Nat):aB os++[.int (k:Int)]=aB (os++[k]):=by
 unfold aB
 rw[jH]
 rfl
end mR
namespace jA
open PySem L2 mR oU tZ
theorem bH{os:List Nat}{f:Nat->Bool}{i o:Nat}(h:os[i]? = some o):(os.take (i+1)).filter f=(os.take i).filter f++(if f o=true then [o] else []):=by
 rw[gB,h,List.filter_append]
 congr 1
 show [o].filter f=_
 rw[List.filter_cons]
 split <;> rfl
theorem yR{os:List Nat}{i:Nat}{x:V}(h:(aB os)[i]? = some x):∃ hi:i < os.length,x = .int ((os[i]:Nat):Int):=by
 have hi:i < os.length:=by
  have:=(yZ.mp h).1
  rw[zU]at this
  exact this
 refine⟨hi,?_⟩
 unfold aB at h
 rw[qd,cj hi]at h
 exact (oN h).symm
end jA
namespace K02
open PySem L2 mR oU
abbrev pK:Stmt:=mR.pK
def mX(n:Nat):Sp:=fun vs H Q _ => ∃(vg:V)(o b:Addr)(g:Gd)(op bx:List Int),vs=[vg,.ref o,.ref b]/\jn H vg g/\H o=some (.tup (op.map V.int))/\H b=some (.tup (bx.map V.int))/\g.ok bx.length/\g.ht<=n/\Q (.bl (g.holds op bx)) H
section
variable{P:Program}{w:World}{K:PySem.W.Frag}{mg:Str->Option Value}{base:Heap}
theorem Eh:aN ["guard","opening","boxes","kind"] ["guard","opening","boxes"] (aG pK):=⟨rfl,rfl,rfl,by decide +kernel,rfl,by decide +kernel,by decide +kernel⟩
theorem R5{n:Nat}{f:Addr}{fd:FuncData}(F:cZ K "holds" "holds" pK f fd)(oK:aL P w K mg base aq n f fd ["guard","opening","boxes"] (mX n))(fM:Binds K fd ["guard","opening","boxes"] [])(nZ:KI K f)(fK:mg "holds" = some (.ref f)) :
  aL P w K mg base aq (n+1) f fd ["guard","opening","boxes"] (mX (n+1)):=by
 refine F.ok Eh (fun vs H Q E h=>?_) (fun cdv A outer s H vs Q E hr h=>?_)
 ·refine aK fun G_ g_=>?_
  obtain⟨vg,o,b,g,op,bx,rfl,_⟩:=h
  refine g_ ?_;clear g_
  rfl
 refine aK fun G_ g_=>?_
 obtain⟨vg,o,b,g,op,bx,rfl,hg,ho,hb,hok,hht,q⟩:=h
 refine g_ ?_;clear g_
 refine⟨_,(zE (zK (i:=3) Eh.nd rfl (Or.inl rfl) (yB zH (pv 0) zB (fun _ _=>rfl)))
  (zE (yD (zL yG (pv 3) zP (zR _))
  (zG (zO gU))
  zT)
  (zE (yD (zL yG (pv 3) zP (zR _))
  (zG (zO (gK yG (yB zH (pv 2) (yB zH (pv 0) zB (fun _ _=>rfl)) (fun _ _=>rfl)) (yB zH (pv 0) zB (fun _ _=>rfl)) (zR _))))
  zT)
  (zE (yD (zL yG (pv 3) zP (zR _))
  (zG (zO (gK lQ (yB zH (pv 2) (yB zH (pv 0) zB (fun _ _=>rfl)) (fun _ _=>rfl)) (yB zH (pv 0) zB (fun _ _=>rfl)) (zR _))))
  zT)
  (zE (yD (zL yG (pv 3) zP (zR _))
  (zG (zO (gK jL (yB zH (pv 0) zB (fun _ _=>rfl)) (pv 1) rfl)))
  zT)
  (zE (yD (zL yG (pv 3) zP (zR _))
  (zG (zO (Hh (zJ oK hr rfl fK nZ fM .nil yE (zA (yB zH (pv 0) zB (fun _ _=>rfl)) (zA (pv 1) (zA (pv 2) zD)))))))
  zT)
  (zE (yD (zL yG (pv 3) zP (zR _))
  (zG (zO (wj (zJ oK hr rfl fK nZ fM .nil yE (zA (yB zH (pv 0) zB (fun _ _=>rfl)) (zA (pv 1) (zA (pv 2) zD)))) (uK (zJ oK hr rfl fK nZ fM .nil yE (zA (yB zH (pv 0) zB (fun _ _=>rfl)) (zA (pv 1) (zA (pv 2) zD))))))))
  zT)
  (zG (zO (Wt (zJ oK hr rfl fK nZ fM .nil yE (zA (yB zH (pv 0) zB (fun _ _=>rfl)) (zA (pv 1) (zA (pv 2) zD)))) (uK (zJ oK hr rfl fK nZ fM .nil yE (zA (yB zH (pv 0) zB (fun _ _=>rfl)) (zA (pv 1) (zA (pv 2) zD))))))))))))))),?_⟩
 cases hg with
 | @yes a e=>
  exact⟨_,rfl,aD (aH.of e) rfl ⟨_,rfl,rfl,_,rfl,yO q⟩⟩
 | @is a c m e=>
  refine⟨_,rfl,aD (aH.of e) rfl ⟨_,rfl,rfl,_,rfl,yN (by decide +kernel) ⟨_,rfl,rfl,_,rfl,yO ?_⟩⟩⟩
  exact⟨_,rfl,_,rfl,aD (aH.of e) rfl (aD (aH.of hb) (oH hok.1 hok.2) ⟨_,rfl,aD (aH.of e) rfl ⟨rfl,q⟩⟩)⟩
 | @under a c m e=>
  refine⟨_,rfl,aD (aH.of e) rfl ⟨_,rfl,rfl,_,rfl,yN (by decide +kernel) ⟨_,rfl,rfl,_,rfl,yN (by decide +kernel) ⟨_,rfl,rfl,_,rfl,yO ?_⟩⟩⟩⟩
  exact⟨_,rfl,_,rfl,aD (aH.of e) rfl (aD (aH.of hb) (oH hok.1 hok.2) ⟨_,rfl,aD (aH.of e) rfl (bF q)⟩)⟩
 | @inn a r e=>
  refine⟨_,rfl,aD (aH.of e) rfl ⟨_,rfl,rfl,_,rfl,yN (by decide +kernel) ⟨_,rfl,rfl,_,rfl,yN (by decide +kernel) ⟨_,rfl,rfl,_,rfl,yN (by decide +kernel) ⟨_,rfl,rfl,_,rfl,yO ?_⟩⟩⟩⟩⟩
  exact⟨_,rfl,aD (aH.of e) rfl ⟨_,rfl,fW rfl (.inr (aH.of ho)) ⟨rfl,lZ op,q⟩⟩⟩
 | @neg a v g e hg=>
  have h1:g.ht+1<=n+1:=hht
  refine⟨_,rfl,aD (aH.of e) rfl ⟨_,rfl,rfl,_,rfl,yN (by decide +kernel) ⟨_,rfl,rfl,_,rfl,yN (by decide +kernel) ⟨_,rfl,rfl,_,rfl,yN (by decide +kernel) ⟨_,rfl,rfl,_,rfl,yN (by decide +kernel) ⟨_,rfl,rfl,_,rfl,yO ?_⟩⟩⟩⟩⟩⟩
  exact⟨_,rfl,aD (aH.of e) rfl ⟨_,rfl,_,rfl,v,o,b,g,op,bx,rfl,hg,ho,hb,hok,by lia,_,rfl,q⟩⟩
 | @both a v u g h e hg hh=>
  have h1:1+max g.ht h.ht<=n+1:=hht
  refine⟨_,rfl,aD (aH.of e) rfl ⟨_,rfl,rfl,_,rfl,yN (by decide +kernel) ⟨_,rfl,rfl,_,rfl,yN (by decide +kernel) ⟨_,rfl,rfl,_,rfl,yN (by decide +kernel) ⟨_,rfl,rfl,_,rfl,yN (by decide +kernel) ⟨_,rfl,rfl,_,rfl,yN (by decide +kernel) ⟨_,rfl,rfl,_,rfl,yO ?_⟩⟩⟩⟩⟩⟩⟩
  refine⟨_,rfl,aD (aH.of e) rfl ⟨_,rfl,_,rfl,v,o,b,g,op,bx,rfl,hg,ho,hb,hok.1,by lia,_,rfl,?_⟩⟩
  have q':Q (.bl (g.holds op bx && h.holds op bx)) H:=q
  refine oZ (fun c=>?_) (fun c=>?_)
  ·rw[c,Bool.true_and]at q'
   exact⟨_,rfl,aD (aH.of e) rfl ⟨_,rfl,_,rfl,u,o,b,h,op,bx,rfl,hh,ho,hb,hok.2,by lia,q'⟩⟩
  ·rw[Bool.eq_false_iff.mpr c,Bool.false_and]at q'
   exact q'
 | @either a v u g h e hg hh=>
  have h1:1+max g.ht h.ht<=n+1:=hht
  refine⟨_,rfl,aD (aH.of e) rfl ⟨_,rfl,rfl,_,rfl,yN (by decide +kernel) ⟨_,rfl,rfl,_,rfl,yN (by decide +kernel) ⟨_,rfl,rfl,_,rfl,yN (by decide +kernel) ⟨_,rfl,rfl,_,rfl,yN (by decide +kernel) ⟨_,rfl,rfl,_,rfl,yN (by decide +kernel) ⟨_,rfl,rfl,_,rfl,yN (by decide +kernel) ?_⟩⟩⟩⟩⟩⟩⟩
  refine⟨_,rfl,aD (aH.of e) rfl ⟨_,rfl,_,rfl,v,o,b,g,op,bx,rfl,hg,ho,hb,hok.1,by lia,_,rfl,?_⟩⟩
  have q':Q (.bl (g.holds op bx || h.holds op bx)) H:=q
  refine oZ (fun c=>?_) (fun c=>?_)
  ·rw[c,Bool.true_or]at q'
   exact q'
  ·rw[Bool.eq_false_iff.mpr c,Bool.false_or]at q'
   exact⟨_,rfl,aD (aH.of e) rfl ⟨_,rfl,_,rfl,u,o,b,h,op,bx,rfl,hh,ho,hb,hok.2,by lia,q'⟩⟩
theorem IW{f:Addr}{fd:FuncData}:aL P w K mg base aq 0 f fd ["guard","opening","boxes"] (mX 0):=by
 have no:∀ vs H Q E,¬ mX 0 vs H Q E:=fun vs H Q E h=>by
  refine aK fun G_ g_=>?_
  obtain⟨vg,o,b,g,op,bx,_,_,_,_,_,h2,_⟩:=h
  refine g_ ?_;clear g_
  have:=g.S6
  lia
 exact⟨fun vs H Q E h=>absurd h (no vs H Q E),fun A outer s H args us vs Q E _ _ _ _ h=>absurd h (no vs H Q E)⟩
theorem Bc{f:Addr}{fd:FuncData}(F:cZ K "holds" "holds" pK f fd)(fM:Binds K fd ["guard","opening","boxes"] [])(fK:mg "holds" = some (.ref f)):∀ n:Nat,aL P w K mg base aq n f fd ["guard","opening","boxes"] (mX n)
 | 0=>IW
 | n+1=>R5 F (Bc F fM fK n) fM F.kp fK
end
end K02
namespace mO
open PySem L2 mR oU
inductive Al{α:Type}(R:V->α->Prop):List V->List α->Prop where
 | nil:Al R [] []
 | cons {v:V} {r:α} {vs:List V} {rs:List α}:R v r->Al R vs rs->Al R (v :: vs) (r :: rs)
theorem Al.mono{α:Type}{R R':V->α->Prop}{vs:List V}{rs:List α}(x:Al R vs rs)(k:∀ v r,R v r->R' v r):Al R' vs rs:=by
 induction x with
 | nil=>exact .nil
 | cons h _ ih=>exact .cons (k _ _ h) ih
theorem Al.length{α:Type}{R:V->α->Prop}{vs:List V}{rs:List α}(x:Al R vs rs):vs.length=rs.length:=by
 induction x with
 | nil=>rfl
 | cons _ _ ih=>rw[gC,gC,ih]
theorem Al.snoc{α:Type}{R:V->α->Prop}{vs:List V}{rs:List α}{v:V}{r:α}(x:Al R vs rs)(y:R v r):Al R (vs++[v]) (rs++[r]):=by
 induction x with
 | nil=>exact .cons y .nil
 | cons h _ ih=>exact .cons h ih
theorem Al.get{α:Type}{R:V->α->Prop}{vs:List V}{rs:List α}(x:Al R vs rs):∀ {k:Nat} {r:α},rs[k]? = some r->∃ v,vs[k]? = some v/\R v r:=by
 induction x with
 | nil=>intro k r h;simp at h
 | cons h _ ih=>
  intro k r e
  cases k with
  | zero=>
   simp at e
   subst e
   exact⟨_,rfl,h⟩
  | succ k=>exact ih (by simpa using e)
structure Dg where
 room:Int
 ev:Int
 g:Gd
def Dj(H:Hp)(v:V)(d:Dg):Prop:=∃(a:Addr)(gv x3 x4 x5:V),v = .ref a/\H a=some (.tup [.int d.room,.int d.ev,gv,x3,x4,x5])/\jn H gv d.g
theorem Dj.mono{H H':Hp}{v:V}{d:Dg}(x:Dj H v d)(k:aF H H'):Dj H' v d:=by
 obtain⟨a,gv,x3,x4,x5,e,h,g⟩:=x
 exact⟨a,gv,x3,x4,x5,e,k _ _ h,g.mono k⟩
def hit(op bx:List Int)(room ev:Int)(d:Dg):Bool:=decide (V.int d.room=V.int room) && (decide (V.int d.ev=V.int ev) && d.g.holds op bx)
def fst(op bx:List Int)(room ev:Int):List Dg->Nat->Option Nat
 | [],_=>none
 | d :: r,b=>if hit op bx room ev d=true then some b else fst op bx room ev r (b+1)
theorem tG(op bx:List Int)(room ev:Int)(d:Dg):∀(ds:List Dg)(b:Nat),fst op bx room ev (ds++[d]) b=match fst op bx room ev ds b with
  | some k=>some k
  | none=>if hit op bx room ev d=true then some (b+ds.length) else none
 | [],b=>by
  show (if hit op bx room ev d=true then some b else none)=_
  rfl
 | x :: ds,b=>by
  show (if hit op bx room ev x=true then some b else fst op bx room ev (ds++[d]) (b+1))=match (if hit op bx room ev x=true then some b else fst op bx room ev ds (b+1)) with
   | some k=>some k
   | none=>if hit op bx room ev d=true then some (b+(ds.length+1)) else none
  by_cases h:hit op bx room ev x=true
  ·rw[if_pos h,if_pos h]
  ·rw[if_neg h,if_neg h,tG op bx room ev d ds (b+1),show b+1+ds.length=b+(ds.length+1) by lia]
def bj(op bx:List Int)(ds:List Dg)(room ev:Int):Option Nat:=if inV (.int room) (op.map V.int)=true then fst op bx room ev ds 0 else none
theorem Gg(op bx:List Int)(ds:List Dg)(d:Dg)(room ev:Int):bj op bx (ds++[d]) room ev=if inV (.int room) (op.map V.int)=true/\bj op bx ds room ev=none/\hit op bx room ev d=true then some ds.length else bj op bx ds room ev:=by
 unfold bj
 by_cases h:inV (.int room) (op.map V.int)=true
 ·rw[if_pos h,if_pos h,tG,Nat.zero_add]
  cases fst op bx room ev ds 0 with
  | some k=>
   show some k=if _ then _ else some k
   rw[if_neg (fun z=>by cases z.2.1)]
  | none=>
   show (if hit op bx room ev d=true then some ds.length else none)=if (inV (.int room) (op.map V.int)=true/\(none:Option Nat)=none/\hit op bx room ev d=true) then some ds.length else none
   by_cases y:hit op bx room ev d=true
   ·rw[if_pos y,if_pos ⟨h,rfl,y⟩]
   ·rw[if_neg y,if_neg (fun z=>y z.2.2)]
 ·rw[if_neg h,if_neg h,if_neg (fun z=>h z.1)]
theorem lZ(os:List Int):(os.map V.int).all pU=true:=by
 rw[List.all_eq_true]
 intro x hx
 obtain⟨n,_,rfl⟩:=fO.mp hx
 rfl
def oV:Option Nat->V
 | none=>.non
 | some j=>.int (j:Int)
def zz(n:Nat):Sp:=fun vs H Q _ => ∃(pc rE pd o b:Addr)(op bx:List Int)(ds:List Dg)(dv:List V)(x0 x1 x2 x3 x4 x5 x:V)(ev:Int),vs=[.ref pc,.ref rE,.int ev]/\H pc=some (.tup [x0,x1,x2,x3,x4,x5,.ref pd])/\H pd=some (.tup dv)/\Al (Dj H) dv ds/\H rE=some (.tup [.ref o,.ref b,x])/\H o=some (.tup (op.map V.int))/\H b=some (.tup (bx.map V.int))/\(∀ d∈ds,d.g.ok bx.length/\d.g.ht<=n)/\ds.length<=1000 ∧
 ∀(p:Addr)(kvs:List (Key × V))(H':Hp),aM H H'->H' p=some (.dK kvs)->(∀ r:Int,iT kvs (Sum.inl r)=(bj op bx ds r ev).map fun k:Nat=>V.int (k:Int))->(∃ ks:List Int,kvs.map (·.1)=ks.map Sum.inl/\ks.length<=ds.length)->H p=none->Q (.ref p) H'
section
variable{P:Program}{w:World}{K:PySem.W.Frag}{mg:Str->Option Value}{base:Heap}
theorem gZ:aN ["chart","stand","event","opening","by_room","number","door","room"] ["chart","stand","event"] (aG sG):=⟨rfl,rfl,rfl,by decide +kernel,rfl,by decide +kernel,by decide +kernel⟩
theorem Hy{n:Nat}{f gh:Addr}{fd dh:FuncData}(F:cZ K "answers" "answers" sG f fd)(oK:aL P w K mg base aq n gh dh ["guard","opening","boxes"] (K02.mX n))(fM:Binds K dh ["guard","opening","boxes"] [])(nZ:KI K gh)(fK:mg "holds" = some (.ref gh))
  (Fp:mg "enumerate" = none):aL P w K mg base aq (n+1) f fd ["chart","stand","event"] (zz n):=by
 refine F.ok gZ (fun vs H Q E h=>?_) (fun cdv A outer s H vs Q E hr h=>?_)
 ·refine aK fun G_ g_=>?_
  obtain⟨pc,rE,pd,o,b,op,bx,ds,dv,x0,x1,x2,x3,x4,x5,x,ev,rfl,_⟩:=h
  refine g_ ?_;clear g_
  rfl
 refine aK fun G_ g_=>?_
 obtain⟨pc,rE,pd,o,b,op,bx,ds,dv,x0,x1,x2,x3,x4,x5,x,ev,rfl,rF,hpd,hds,hst,ho,hb,hok,qBM,q⟩:=h
 refine g_ ?_;clear g_
 have hu:=Nat.lt_of_le_of_lt (Nat.add_le_add_left (show 1<=64 by decide) _) hr.units
 refine⟨_,(zE (zK (i:=3) gZ.nd rfl (Or.inl rfl) (yB zH (pv 1) zB (fun _ _=>rfl)))
  (zE (zK (i:=4) gZ.nd rfl (Or.inl rfl) Qj)
  (zZ (bN PassesOwn.never rfl (V0 rfl Fp (zA (yB zH (pv 0) zB (fun _ _=>rfl)) zD)) (Qh rfl (sS (yJ (i:=5) gZ.nd rfl (Or.inl rfl)) (sS (yJ (i:=6) gZ.nd rfl (Or.inl rfl)) KY)))
  (zE (zK (i:=7) gZ.nd rfl (Or.inl rfl) (yB zH (pv 6) zB (fun _ _=>rfl)))
  (zG (yD (bW (PW.pt (pw_and (zL yG (yB zH (pv 6) zB (fun _ _=>rfl)) (pv 2) (zR _)) (pw_and (zL jL (pv 7) (pv 3) rfl) (pw_and (Xy (MP hu (pv 7) (pv 4))) (yP (c7 (zJ oK hr rfl fK nZ fM .nil yE (zA (yB zH (pv 6) zB (fun _ _=>rfl)) (zA (pv 3) (zA (yB zH (pv 1) zB (fun _ _=>rfl)) zD)))))))))))
  (zG (Uz hu (pv 4) (pv 7) (pv 5) rfl))
  zT))))
  (zG (zO (pv 4)))))),?_⟩
 have ldv:=hds.length
 refine⟨_,rfl,aD (aH.of hst) rfl (fun pb hpb=>?_)⟩
 have s1:=zF hpb (.dK [])
 refine⟨fun σ' H' => ∃ kvs:List (Key × V),aM H H'/\H' pb=some (.dK kvs)/\(∀ r:Int,iT kvs (Sum.inl r)=(bj op bx ds r ev).map fun k:Nat=>V.int (k:Int))/\(∃ ks:List Int,kvs.map (·.1)=ks.map Sum.inl/\ks.length<=ds.length)/\∃ o5 o6 o7:Option V,σ'=[some (.ref pc),some (.ref rE),some (.int ev),some (.ref o),some (.ref pb),o5,o6,o7],?_,?_⟩
 ·refine⟨_,rfl,aD (aH.of (s1 _ _ rF)) rfl ⟨pd,rfl,⟨_,aH.of (s1 _ _ hpd)⟩,?_⟩⟩
  refine Sh (K:=K) (a:=pd) (xs:=dv) (fun i σ' H' => ∃ kvs:List (Key × V),aM H H'/\H' pb=some (.dK kvs)/\(∃ ks:List Int,kvs.map (·.1)=ks.map Sum.inl/\ks.length<=i)/\(∀ r:Int,iT kvs (Sum.inl r)=(bj op bx (ds.take i) r ev).map fun k:Nat=>V.int (k:Int))/\∃ o5 o6 o7:Option V,σ'=[some (.ref pc),some (.ref rE),some (.int ev),some (.ref o),some (.ref pb),o5,o6,o7])
   ⟨[],s1,zC,⟨[],rfl,bu _⟩,(fun r=>by
    unfold bj
    rw[List.take_zero]
    split <;> rfl),_,_,_,rfl⟩ (fun i σ' H' _ ⟨_,s',_⟩=>aH.of (s' _ _ hpd)) ?_ ?_
  ·rintro i x' σ' H3 t1 hx ⟨kvs,s3,h3,⟨ks,hks,Yc⟩,UT,o5,o6,o7,rfl⟩ ht1
   have l3:kvs.length<=i:=by
    have:=congrArg List.length hks
    rw[cM,cM]at this
    lia
   have hi:i < ds.length:=by
    have:=(yZ.mp hx).1
    lia
   have ed:=cj hi
   refine aK fun G_ g_=>?_
   obtain⟨v,hv,ad,gv,y3,y4,y5,rfl,had,hgd⟩:=hds.get ed
   refine g_ ?_;clear g_
   rw[hv]at hx
   obtain rfl:=oN hx
   have Yx:=hok _ (fB hi)
   generalize hdd:ds[i]=d at had hgd Yx ed
   have et:ds.take (i+1)=ds.take i++[d]:=by
    rw[gB,ed]
    rfl
   have elt:(ds.take i).length=i:=by
    rw[dN]
    lia
   have s4:=s3.trans (zF ht1 (.tup [.int (i:Int),.ref ad]))
   have h4:=(zF ht1 (.tup [.int (i:Int),.ref ad])) _ _ h3
   refine⟨t1,_,rfl,aH.of zC,rfl,_,_,rfl,_,_,rfl,rfl,?_⟩
   generalize upd H3 t1 (.tup [.int (i:Int),.ref ad])=H4 at s4 h4 ⊢
   refine⟨_,rfl,aD (aH.of (s4 _ _ had)) rfl ?_⟩
   refine⟨fun c H'=>H'=H4/\c=(decide (V.int d.ev=V.int ev) && (inV (.int d.room) (op.map V.int) && (!(iT kvs (Sum.inl d.room)).isSome && d.g.holds op bx))),?_,?_⟩
   ·refine⟨_,rfl,aD (aH.of (s4 _ _ had)) rfl ⟨_,rfl,rfl,_,rfl,cW (fun c1=>?_) (fun c1=>⟨rfl,?_⟩)⟩⟩
    ·have c1:decide (V.int d.ev=V.int ev)=true:=c1
     rw[c1,Bool.true_and]
     refine⟨_,rfl,_,rfl,fW rfl (.inr (aH.of (s4 _ _ ho))) ⟨rfl,lZ op,_,rfl,cW (fun c2=>?_) (fun c2=>⟨rfl,?_⟩)⟩⟩
     ·have c2:inV (.int d.room) (op.map V.int)=true:=c2
      rw[c2,Bool.true_and]
      refine⟨_,rfl,_,rfl,pb,_,rfl,Dk.k (k:=Sum.inl d.room) h4,_,rfl,cW (fun c3=>?_) (fun c3=>⟨rfl,?_⟩)⟩
      ·rw[c3,Bool.true_and]
       exact⟨_,rfl,aD (aH.of (s4 _ _ had)) rfl ⟨_,rfl,_,rfl,aD (aH.of (s4 _ _ hst)) rfl ⟨gv,o,b,d.g,op,bx,rfl,hgd.mono (aF.of s4),s4 _ _ ho,s4 _ _ hb,Yx.1,Yx.2,_,rfl,rfl,rfl⟩⟩⟩
      ·rw[c3]
       rfl
     ·have c2:inV (.int d.room) (op.map V.int)=false:=c2
      rw[c2]
      rfl
    ·have c1:decide (V.int d.ev=V.int ev)=false:=c1
     rw[c1]
     rfl
   rintro c H5 ⟨rfl,hc⟩
   refine cW (fun c1=>?_) (fun c1=>?_)
   ·rw[c1]at hc
    have hc':=hc.symm
    simp only[Bool.and_eq_true,Bool.not_eq_true']at hc'
    refine aK fun G_ g_=>?_
    obtain⟨e1,e2,e3,e4⟩:=hc'
    refine g_ ?_;clear g_
    have e5:bj op bx (ds.take i) d.room ev=none:=by
     have:=UT d.room
     cases z:bj op bx (ds.take i) d.room ev with
     | none=>rfl
     | some k=>
      rw[z]at this
      rw[this]at e3
      cases e3
    refine⟨_,rfl,_,rfl,_,rfl,pb,_,rfl,U5.k (k:=Sum.inl d.room) h4 (zV (by lia)),putK kvs (Sum.inl d.room) (.int (i:Int)),cB hpb s4 _,zC,⟨ks++[d.room],by rw[Qd _ (by have:=UT d.room;rw[e5]at this;exact this),List.map_append,List.map_append,hks];rfl,by rw[List.length_append];simp;lia⟩,fun r=>?_,_,_,_,rfl⟩
    rw[Pu,et,Gg,elt]
    by_cases z:(Sum.inl r:Key)=Sum.inl d.room
    ·have z':r=d.room:=by injection z
     subst z'
     rw[if_pos rfl,if_pos ⟨e2,e5,by
      unfold hit
      rw[decide_eq_true rfl,e1,e4]
      rfl⟩]
     rfl
    ·rw[if_neg z,if_neg (fun y=>z (by
      have y2:=y.2.2
      unfold hit at y2
      simp only[Bool.and_eq_true]at y2
      have y3:=of_decide_eq_true y2.1
      injection y3 with y4
      rw[y4]))]
     exact UT r
   ·rw[c1]at hc
    refine⟨kvs,s4,h4,⟨ks,hks,by lia⟩,fun r=>?_,_,_,_,rfl⟩
    rw[et,Gg,if_neg (fun y=>?_)]
    ·exact UT r
    ·refine aK fun G_ g_=>?_
     obtain⟨y1,y2,y3⟩:=y
     refine g_ ?_;clear g_
     unfold hit at y3
     simp only[Bool.and_eq_true]at y3
     refine aK fun G_ g_=>?_
     obtain⟨z1,z2,z3⟩:=y3
     refine g_ ?_;clear g_
     have z4:=of_decide_eq_true z1
     injection z4 with z5
     subst z5
     have:=UT d.room
     rw[y2]at this
     rw[z2,y1,this,z3]at hc
     cases hc
  ·rintro σ' H3 aP
   refine aK fun G_ g_=>?_
   obtain⟨kvs,s3,h3,⟨ks,hks,Yc⟩,UT,r⟩:=aP
   refine g_ ?_;clear g_
   rw[tW (by lia)]at UT
   exact⟨kvs,s3,h3,UT,⟨ks,hks,by lia⟩,r⟩
 rintro σ' H3 aP
 refine aK fun G_ g_=>?_
 obtain⟨kvs,s3,h3,UT,hks,o5,o6,o7,rfl⟩:=aP
 refine g_ ?_;clear g_
 exact⟨_,rfl,q pb kvs H3 s3 h3 UT hks hpb⟩
end
end mO
namespace jA
open PySem L2 mR oU tZ
def Eb:Sp:=fun vs H Q _ => ∃(t:Addr)(rs:List Rm)(k:Nat),vs=[.ref t,.int (k:Int)]/\cD H t rs/\rs.length<=40/\k < rs.length/\∀ e:Nat,Tr.yW (aA rs) k e->Q (.int (e:Int)) H
section
variable{P:Program}{w:World}{K:PySem.W.Frag}{mg:Str->Option Value}{base:Heap}
theorem uD:aN ["rooms","room","depth","other"] ["rooms","room"] (aG Bw):=⟨rfl,rfl,rfl,by decide +kernel,rfl,by decide +kernel,by decide +kernel⟩
theorem YH{f:Addr}{fd:FuncData}(F:cZ K "end_of" "end_of" Bw f fd)(aZ:mg "range" = none)(aY:mg "len" = none):aL P w K mg base aq 1 f fd ["rooms","room"] Eb:=by
 refine F.ok uD (fun vs H Q E h=>?_) (fun cdv A outer s H vs Q E hr h=>?_)
 ·refine aK fun G_ g_=>?_
  obtain⟨t,rs,k,rfl,_⟩:=h
  refine g_ ?_;clear g_
  rfl
 refine aK fun G_ g_=>?_
 obtain⟨t,rs,k,rfl,hR,lg,hk,q⟩:=h
 refine g_ ?_;clear g_
 refine⟨_,(zE (zK (i:=2) uD.nd rfl (Or.inl rfl) (yB zH (yB zH (pv 0) (pv 1) (fun _ _=>rfl)) zB (fun _ _=>rfl)))
  (zZ (bN PassesOwn.never rfl (qI rfl aZ (zA (yC yF (pv 1) zB) (zA (zS zN rfl aY PySem.boot_len (zA (pv 0) zD)) zD))) (yJ (i:=3) uD.nd rfl (Or.inl rfl))
  (zG (yD (zL Qo (yB zH (yB zH (pv 0) (pv 3) (fun _ _=>rfl)) zB (fun _ _=>rfl)) (pv 2) (zR _))
  (zG (zO (pv 3)))
  zT)))
  (zG (zO (zS zN rfl aY PySem.boot_len (zA (pv 0) zD)))))),?_⟩
 refine aK fun G_ g_=>?_
 obtain⟨vs,a,r,ht,hl,hr0,hat,ha⟩:=hR.at hk
 refine g_ ?_;clear g_
 have ed:=cI hr0
 have dl:=yV rs
 refine⟨_,rfl,_,rfl,t,vs,_,_,rfl,rfl,aH.of ht,hat,aD (aH.of ha) rfl ?_⟩
 refine⟨fun σ' H'=>H'=H/\Tr.yW (aA rs) k rs.length/\∃ o3:Option V,σ'=[some (.ref t),some (.int (k:Int)),some (.int r.depth),o3],?_,?_⟩
 ·refine⟨_,rfl,bF ⟨_,rfl,fW rfl (.inr (aH.of ht)) ⟨_,_,rfl,⟨by lia,by lia,by lia,by lia⟩,?_⟩⟩⟩
  refine bR (fun i σ' H'=>H'=H/\(∀ j,k < j->j < k+1+i->(aA rs).getD k 0 < (aA rs).getD j 0)/\∃ o3:Option V,σ'=[some (.ref t),some (.int (k:Int)),some (.int r.depth),o3]) ⟨rfl,fun j j1 j2=>by lia,none,rfl⟩ ?_ ?_
  ·rintro i σ' H' hi aP
   refine aK fun G_ g_=>?_
   obtain⟨rfl,hin,o3,rfl⟩:=aP
   have hj:k+1+i < rs.length:=by lia
   obtain⟨vs2,a2,r2,uy,hl2,hr2,rD,ha2⟩:=hR.at hj
   refine g_ ?_;clear g_
   rw[ht]at uy
   cases uy
   have Sx:=cI hr2
   have ej:(k:Int)+1+(i:Int)=((k+1+i:Nat):Int):=by lia
   refine⟨_,rfl,_,rfl,t,vs,_,_,rfl,rfl,aH.of ht,(by rw[ej];exact rD),aD (aH.of ha2) rfl ⟨_,rfl,bF ⟨_,rfl,?_⟩⟩⟩
   refine oZ (fun c=>?_) (fun c=>?_)
   ·have c':=of_decide_eq_true c
    refine⟨_,rfl,?_⟩
    have z:=q (k+1+i) ⟨by lia,by lia,hin,fun _=>by rw[Sx,ed];exact c'⟩
    rw[<-ej]at z
    exact z
   ·have c':¬ r2.depth<=r.depth:=fun z=>c (decide_eq_true z)
    refine⟨rfl,fun j j1 j2=>?_,_,rfl⟩
    by_cases y:j=k+1+i
    ·rw[y,Sx,ed]
     lia
    ·exact hin j j1 (by lia)
  ·rintro σ' H' aP
   refine aK fun G_ g_=>?_
   obtain⟨rfl,hin,o3,rfl⟩:=aP
   refine g_ ?_;clear g_
   exact⟨rfl,⟨hk,by lia,fun j j1 j2=>hin j j1 (by lia),fun z=>by lia⟩,o3,rfl⟩
 rintro σ' H' aP
 refine aK fun G_ g_=>?_
 obtain⟨rfl,he,o3,rfl⟩:=aP
 refine g_ ?_;clear g_
 refine⟨_,rfl,fW rfl (.inr (aH.of ht)) ?_⟩
 have z:=q _ he
 rw[<-hl]at z
 exact z
def EY:Sp:=fun vs H Q _ => ∃(t:Addr)(rs:List Rm)(k:Nat),vs=[.ref t,.int (k:Int)]/\cD H t rs/\Tr.Good (aA rs)/\rs.length<=40/\k < rs.length/\∀ H',aM H H'->Q (pV (Tr.par (aA rs) k)) H'
theorem uC:aN ["rooms","room","depth","other"] ["rooms","room"] (aG vQ):=⟨rfl,rfl,rfl,by decide +kernel,rfl,by decide +kernel,by decide +kernel⟩
theorem Mi{f:Addr}{fd:FuncData}(F:cZ K "parent" "parent" vQ f fd)(aZ:mg "range" = none):aL P w K mg base aq 1 f fd ["rooms","room"] EY:=by
 refine F.ok uC (fun vs H Q E h=>?_) (fun cdv A outer s H vs Q E hr h=>?_)
 ·refine aK fun G_ g_=>?_
  obtain⟨t,rs,k,rfl,_⟩:=h
  refine g_ ?_;clear g_
  rfl
 refine aK fun G_ g_=>?_
 obtain⟨t,rs,k,rfl,hR,good,lg,hk,q⟩:=h
 refine g_ ?_;clear g_
 refine⟨_,(zE (zK (i:=2) uC.nd rfl (Or.inl rfl) (yB zH (yB zH (pv 0) (pv 1) (fun _ _=>rfl)) zB (fun _ _=>rfl)))
  (zZ (bN PassesOwn.never rfl (V1 rfl aZ (qD4 (yC kh (pv 1) zB) (qBC (Qi Gv zB) (qBC (Qi Gv zB) zD)))) (yJ (i:=3) uC.nd rfl (Or.inl rfl))
  (zG (yD (zL lQ (yB zH (yB zH (pv 0) (pv 3) (fun _ _=>rfl)) zB (fun _ _=>rfl)) (pv 2) (zR _))
  (zG (zO (pv 3)))
  zT)))
  (zG (zO fV)))),?_⟩
 refine aK fun G_ g_=>?_
 obtain⟨vs,a,r,ht,hl,hr0,hat,ha⟩:=hR.at hk
 refine g_ ?_;clear g_
 have ed:=cI hr0
 refine⟨_,rfl,_,rfl,t,vs,_,_,rfl,rfl,aH.of ht,hat,aD (aH.of ha) rfl ?_⟩
 refine⟨fun σ' H'=>H'=H/\Tr.par (aA rs) k=none,?_,?_⟩
 ·refine⟨_,rfl,bF ⟨_,rfl,_,rfl,(k:Int) - 1,rfl,by lia,by lia,?_⟩⟩
  refine Sq (fun i σ' H'=>H'=H/\(∀ j,k<=j+i->j < k->(aA rs).getD k 0<=(aA rs).getD j 0)/\∃ o3:Option V,σ'=[some (.ref t),some (.int (k:Int)),some (.int r.depth),o3]) ⟨rfl,fun j j1 j2=>by lia,none,rfl⟩ ?_ ?_
  ·rintro i σ' H' hi aP
   refine aK fun G_ g_=>?_
   obtain⟨rfl,hin,o3,rfl⟩:=aP
   have hi':i < k:=by lia
   have hj:k - 1 - i < rs.length:=by lia
   obtain⟨vs2,a2,r2,uy,hl2,hr2,rD,ha2⟩:=hR.at hj
   refine g_ ?_;clear g_
   rw[ht]at uy
   cases uy
   have Sx:=cI hr2
   have ej:(k:Int) - 1 - (i:Int)=((k - 1 - i:Nat):Int):=by lia
   refine⟨_,rfl,_,rfl,t,vs,_,_,rfl,rfl,aH.of ht,(by rw[ej];exact rD),aD (aH.of ha2) rfl ⟨_,rfl,bF ⟨_,rfl,?_⟩⟩⟩
   refine oZ (fun c=>?_) (fun c=>?_)
   ·have c':=of_decide_eq_true c
    refine⟨_,rfl,?_⟩
    have e:Tr.par (aA rs) k=some (k - 1 - i):=Tr.rB (by lia) (by rw[Sx,ed];exact c') fun j j1 j2=>hin j (by lia) j2
    have z:=q _ (aM.refl _)
    rw[e]at z
    rw[ej]
    exact z
   ·have c':¬ r2.depth < r.depth:=fun z=>c (decide_eq_true z)
    refine⟨rfl,fun j j1 j2=>?_,_,rfl⟩
    by_cases y:j=k - 1 - i
    ·rw[y,Sx,ed]
     lia
    ·exact hin j (by lia) j2
  ·rintro σ' H' aP
   refine aK fun G_ g_=>?_
   obtain⟨rfl,hin,o3,rfl⟩:=aP
   refine g_ ?_;clear g_
   exact⟨rfl,Tr.wu fun j hj=>hin j (by lia) hj⟩
 rintro σ' H' ⟨rfl,e⟩
 have z:=q _ (aM.refl _)
 rw[e]at z
 exact z
def HH:Sp:=fun vs H Q _ => ∃(t:Addr)(rs:List Rm)(one other:Nat),vs=[.ref t,.int (one:Int),.int (other:Int)]/\cD H t rs/\Tr.Good (aA rs)/\rs.length<=40/\one < rs.length/\other < rs.length/\∀ H',aM H H'->Q (.bl (Tr.aJ (aA rs) one other)) H'
theorem HY:aN ["rooms","one","other"] ["rooms","one","other"] (aG vR):=⟨rfl,rfl,rfl,by decide +kernel,rfl,by decide +kernel,by decide +kernel⟩
theorem VL{n:Nat}{f ge:Addr}{fd de:FuncData}(F:cZ K "lies_in" "lies_in" vR f fd)(jg:aL P w K mg base aq n ge de ["rooms","room"] Eb)(jc:Binds K de ["rooms","room"] [])(jZ:KI K ge)(jW:mg "end_of" = some (.ref ge)) :
  aL P w K mg base aq (n+1) f fd ["rooms","one","other"] HH:=by
 refine F.ok HY (fun vs H Q E h=>?_) (fun cdv A outer s H vs Q E hr h=>?_)
 ·refine aK fun G_ g_=>?_
  obtain⟨t,rs,one,other,rfl,_⟩:=h
  refine g_ ?_;clear g_
  rfl
 refine aK fun G_ g_=>?_
 obtain⟨t,rs,one,other,rfl,hR,good,lg,h1,h2,q⟩:=h
 refine g_ ?_;clear g_
 have q':=q H (aM.refl _)
 have dl:=yV rs
 refine⟨_,(zG (zO (Qk lQ lQ (pv 2) (pv 1) (zJ jg hr rfl jW jZ jc .nil yE (zA (pv 0) (zA (pv 2) zD)))))),?_⟩
 refine⟨_,rfl,_,rfl,bF ⟨_,rfl,?_⟩⟩
 refine oZ (fun c=>?_) (fun c=>?_)
 ·have c':=of_decide_eq_true c
  refine⟨_,rfl,_,rfl,t,rs,other,rfl,hR,lg,h2,fun e he=>(bF ?_)⟩
  rw[Tr.xO he (by lia),decide_eq_true (show other < one by lia),Bool.true_and]at q'
  have e2:decide (one < e)=decide ((one:Int) < (e:Int)):=decide_eq_decide.mpr (by lia)
  rw[e2]at q'
  exact q'
 ·have c':¬ (other:Int) < (one:Int):=fun z=>c (decide_eq_true z)
  have e1:Tr.aJ (aA rs) one other=false:=by
   unfold Tr.aJ
   rw[Bool.eq_false_iff]
   intro z
   have:=Tr.ou (List.contains_iff_mem.mp z)
   lia
  rw[e1]at q'
  exact q'
end
end jA
namespace vL
open PySem L2 mR oU tZ
def isOne(rs:List Rm)(x:Nat):Bool:=match rs[x]? with
 | some r=>decide (V.str r.kind=V.str "one")
 | none=>false
def QJ:Sp:=fun vs H Q _ => ∃(t:Addr)(rs:List Rm)(one other:Nat),vs=[.ref t,.int (one:Int),.int (other:Int)]/\cD H t rs/\Tr.Good (aA rs)/\rs.length<=40/\one < rs.length/\other < rs.length/\∀ H',aM H H'->Q (pV (Tr.hall (aA rs) (isOne rs) one other)) H'
def hgt:Option Nat->Nat
 | none=>0
 | some j=>j+1
end vL
namespace jA
open PySem L2 mR oU tZ
section
variable{P:Program}{w:World}{K:PySem.W.Frag}{mg:Str->Option Value}{base:Heap}
theorem O5(ds:List Int)(f:Nat->Bool)(b:Nat)(k:Nat):Tr.hall ds f k b=match Tr.par ds k with
  | none=>none
  | some j=>if ((Tr.ups ds b).contains j && f j)=true then some j else Tr.hall ds f j b:=by
 unfold Tr.hall
 cases e:Tr.par ds k with
 | none=>
  rw[Tr.lF e]
  rfl
 | some j=>
  rw[Tr.jN e,List.find?_cons]
  show _=if ((Tr.ups ds b).contains j && f j)=true then some j else _
  cases h:((Tr.ups ds b).contains j && f j) with
  | true=>rfl
  | false=>rfl
theorem my:aN ["rooms","one","other","hall"] ["rooms","one","other"] (aG qG):=⟨rfl,rfl,rfl,by decide +kernel,rfl,by decide +kernel,by decide +kernel⟩
theorem VP{n:Nat}{f gp gl:Addr}{fd dp dl':FuncData}(F:cZ K "hall_over" "hall_over" qG f fd)(Gm:aL P w K mg base aq n gp dp ["rooms","room"] EY)(Ga:Binds K dp ["rooms","room"] [])(Fy:KI K gp)(Fj:mg "parent" = some (.ref gp))
  (qZ:aL P w K mg base aq n gl dl' ["rooms","one","other"] HH) (qU:Binds K dl' ["rooms","one","other"] []) (qP:KI K gl) (qN:mg "lies_in" = some (.ref gl)) :
  aL P w K mg base aq (n+1) f fd ["rooms","one","other"] vL.QJ:=by
 refine F.ok my (fun vs H Q E h=>?_) (fun cdv A outer s H vs Q E hr h=>?_)
 ·refine aK fun G_ g_=>?_
  obtain⟨t,rs,one,other,rfl,_⟩:=h
  refine g_ ?_;clear g_
  rfl
 refine aK fun G_ g_=>?_
 obtain⟨t,rs,one,other,rfl,hR,good,lg,h1,h2,q⟩:=h
 refine g_ ?_;clear g_
 refine⟨_,(zE (zK (i:=3) my.nd rfl (Or.inl rfl) (zJ Gm hr rfl Fj Fy Ga .nil yE (zA (pv 0) (zA (pv 1) zD))))
  (zZ (pM PassesOwn.never (zL CG (pv 3) fV (zR _))
  (zE (yD (bW (PW.pt (pw_and (zL yG (yB zH (yB zH (pv 0) (pv 3) (fun _ _=>rfl)) zB (fun _ _=>rfl)) zP (zR _)) (yP (c7 (zJ qZ hr rfl qN qP qU .nil yE (zA (pv 0) (zA (pv 2) (zA (pv 3) zD)))))))))
  (zG (zO (pv 3)))
  zT)
  (zG (zK (i:=3) my.nd rfl (Or.inl rfl) (zJ Gm hr rfl Fj Fy Ga .nil yE (zA (pv 0) (zA (pv 3) zD)))))))
  (zG (zO fV)))),?_⟩
 refine⟨_,rfl,_,rfl,t,rs,one,rfl,hR,good,lg,h1,fun H1 s1=>?_⟩
 refine⟨fun σ' H'=>aM H H'/\Tr.hall (aA rs) (vL.isOne rs) one other=none,?_,?_⟩
 ·refine⟨fun m σ' H' => ∃ k:Nat,k < rs.length/\m=vL.hgt (Tr.par (aA rs) k)/\aM H H'/\Tr.hall (aA rs) (vL.isOne rs) one other=Tr.hall (aA rs) (vL.isOne rs) k other/\σ'=[some (.ref t),some (.int (one:Int)),some (.int (other:Int)),some (pV (Tr.par (aA rs) k))],⟨_,one,h1,rfl,s1,rfl,rfl⟩,?_⟩
  rintro m σ' H' aP
  refine aK fun G_ g_=>?_
  obtain⟨k,hk,rfl,s2,hh,rfl⟩:=aP
  refine g_ ?_;clear g_
  have hs:=O5 (aA rs) (vL.isOne rs) other k
  cases e:Tr.par (aA rs) k with
  | none=>
   rw[e]at hs
   exact⟨_,rfl,rfl,_,rfl,uQ rfl ⟨s2,hh.trans hs⟩⟩
  | some j=>
   rw[e]at hs
   have hj:j < rs.length:=Nat.lt_trans (Tr.eX e) hk
   have hR2:=hR.mono (aF.of s2)
   refine aK fun G_ g_=>?_
   obtain⟨vs,a,r,ht,hl,hr0,hat,ha⟩:=hR2.at hj
   refine g_ ?_;clear g_
   have io:vL.isOne rs j=decide (V.str r.kind=V.str "one"):=by
    unfold vL.isOne
    rw[hr0]
   refine⟨_,rfl,rfl,_,rfl,vG rfl ?_⟩
   refine⟨fun σ' H2=>aM H H2/\Tr.hall (aA rs) (vL.isOne rs) one other=Tr.hall (aA rs) (vL.isOne rs) j other/\σ'=[some (.ref t),some (.int (one:Int)),some (.int (other:Int)),some (pV (Tr.par (aA rs) j))],?_,?_⟩
   ·rintro σ' H2 aP
    refine aK fun G_ g_=>?_
    obtain⟨s3,hh2,rfl⟩:=aP
    refine g_ ?_;clear g_
    refine⟨vL.hgt (Tr.par (aA rs) j),?_,j,hj,rfl,s3,hh2,rfl⟩
    cases e2:Tr.par (aA rs) j with
    | none=>show 0 < j+1;lia
    | some i=>have:=Tr.eX e2;show i+1 < j+1;lia
   ·refine⟨fun b H2=>aM H' H2/\b=((Tr.ups (aA rs) other).contains j && vL.isOne rs j),?_,?_⟩
    ·refine⟨_,rfl,_,rfl,t,vs,_,_,rfl,rfl,aH.of ht,hat,aD (aH.of ha) rfl ⟨rfl,_,rfl,?_⟩⟩
     refine oZ (fun c=>?_) (fun c=>?_)
     ·refine⟨_,rfl,_,rfl,_,rfl,t,rs,other,j,rfl,hR2,good,lg,h2,hj,fun H2 s3=>⟨_,rfl,s3,?_⟩⟩
      rw[io,c,Bool.and_true]
      rfl
     ·refine⟨aM.refl _,?_⟩
      rw[io,Bool.eq_false_iff.mpr c,Bool.and_false]
    ·rintro b H2 ⟨s3,rfl⟩
     refine oZ (fun c=>?_) (fun c=>?_)
     ·refine⟨_,rfl,?_⟩
      have z:=q H2 (s2.trans s3)
      rw[hh,hs]at z
      simp only[c,if_true]at z
      exact z
     ·refine⟨_,rfl,_,rfl,t,rs,j,rfl,hR.mono (aF.of (s2.trans s3)),good,lg,hj,fun H3 s4=>⟨(s2.trans s3).trans s4,?_,rfl⟩⟩
      rw[hh,hs]
      simp only[c,if_false]
      rfl
 rintro σ' H' ⟨s2,e⟩
 have z:=q _ s2
 rw[e]at z
 exact z
def QF:Sp:=fun vs H Q _ => ∃(t:Addr)(rs:List Rm)(k:Nat),vs=[.ref t,.int (k:Int)]/\cD H t rs/\Tr.Good (aA rs)/\rs.length<=40/\k < rs.length/\∀(p:Addr)(H':Hp),aM H H'->H p=none->H' p=some (.lst (aB (Tr.kids (aA rs) k)))->Q (.ref p) H'
theorem K6:aN ["rooms","room","depth"] ["rooms","room"] (aG Ei):=⟨rfl,rfl,rfl,by decide +kernel,rfl,by decide +kernel,by decide +kernel⟩
theorem VM{n:Nat}{f ge:Addr}{fd de:FuncData}(F:cZ K "kids" "kids" Ei f fd)(jg:aL P w K mg base aq n ge de ["rooms","room"] Eb)(jc:Binds K de ["rooms","room"] [])(jZ:KI K ge)(jW:mg "end_of" = some (.ref ge))(aZ:mg "range" = none) :
  aL P w K mg base aq (n+1) f fd ["rooms","room"] QF:=by
 refine F.ok K6 (fun vs H Q E h=>?_) (fun cdv A outer s H vs Q E hr h=>?_)
 ·refine aK fun G_ g_=>?_
  obtain⟨t,rs,k,rfl,_⟩:=h
  refine g_ ?_;clear g_
  rfl
 refine aK fun G_ g_=>?_
 obtain⟨t,rs,k,rfl,hR,good,lg,hk,q⟩:=h
 refine g_ ?_;clear g_
 refine⟨_,(zE (zK (i:=2) K6.nd rfl (Or.inr rfl) (yC yF (yB zH (yB zH (pv 0) (pv 1) (fun _ _=>rfl)) zB (fun _ _=>rfl)) zB))
  (zG (zO (yT (bY:=[(2,"depth"),(0,"rooms")]) rfl (show bQ (aG Ei) ["rooms","room","depth"] _ _ _ from ⟨rfl,rfl,by decide +kernel,by decide +kernel,by decide +kernel,by decide +kernel,by decide +kernel⟩) (qI rfl aZ (zA (yC yF (pv 1) zB) (zA (zJ jg hr rfl jW jZ jc .nil yE (zA (pv 0) (zA (pv 1) zD))) zD))) (fun _ _ _ _ _ _=>bU (zL yG (yB (r:=fj K) zH (yB (r:=fj K) zH (pv 2) (pv 0) (fun _ _=>rfl)) zB (fun _ _=>rfl)) (pv 1) (zR _))) (fun _ _ _ _ _ _=>(pv 0)))))),?_⟩
 refine aK fun G_ g_=>?_
 obtain⟨vs,a,r,ht,hl,hr0,hat,ha⟩:=hR.at hk
 refine g_ ?_;clear g_
 have ed:=cI hr0
 have dl:=yV rs
 refine⟨_,rfl,_,rfl,t,vs,_,_,rfl,rfl,aH.of ht,hat,aD (aH.of ha) rfl (bF ?_)⟩
 refine⟨_,rfl,bF ⟨_,rfl,_,rfl,t,rs,k,rfl,hR,lg,hk,fun e he=>?_⟩⟩
 have he1:=he.lt
 have he2:=he.le
 refine⟨_,_,rfl,⟨by lia,by lia,by lia,by lia⟩,?_⟩
 refine nu (fun i acc H'=>H'=H/\acc=aB (Tr.dZ (aA rs) k (k+1+i))) ⟨rfl,by rw[Tr.rC _ _ _ (by lia)];rfl⟩ (fun i acc H' hi ⟨e1,e2⟩=>?_) (fun acc H' ⟨e1,e2⟩ p hp=>?_)
 ·subst e1 e2
  have hj:k+1+i < rs.length:=by lia
  refine aK fun G_ g_=>?_
  obtain⟨vs2,a2,r2,uy,hl2,hr2,rD,ha2⟩:=hR.at hj
  refine g_ ?_;clear g_
  rw[ht]at uy
  cases uy
  have Sx:=cI hr2
  have ej:(k:Int)+1+(i:Int)=((k+1+i:Nat):Int):=by lia
  have pe:=Tr.KZ good he (j:=k+1+i) (by lia)
  refine⟨_,rfl,_,rfl,t,vs,_,_,rfl,rfl,aH.of ht,(by rw[ej];exact rD),aD (aH.of ha2) rfl ⟨_,rfl,rfl,_,rfl,?_⟩⟩
  refine oZ (fun c=>?_) (fun c=>?_)
  ·have c':=of_decide_eq_true c
   injection c' with c'
   refine⟨_,rfl,?_,rfl,?_⟩
   ·unfold aB
    have:=Tr.nY (aA rs) k (k+1+i)
    exact zV (by rw[cM];lia)
   ·rw[show k+1+(i+1)=(k+1+i)+1 by lia,Tr.fZ,if_pos (by rw[pe.mpr ⟨by lia,by lia,by rw[Sx,ed];exact c'⟩];simp),ej]
    unfold aB
    rw[jH]
    rfl
  ·refine⟨rfl,?_⟩
   rw[show k+1+(i+1)=(k+1+i)+1 by lia,Tr.fZ,if_neg,dM]
   intro z
   have y:=(pe.mp (eq_of_beq z)).2.2
   rw[Sx,ed]at y
   exact c (decide_eq_true (by rw[y]))
 ·subst e1 e2
  refine q p _ (zF hp _) hp ?_
  rw[zC,Tr.Ft good he,show k+1+((e:Int) - ((k:Int)+1)).toNat=e by lia]
end
end jA
namespace vK
open PySem L2 mR oU tZ
def under(ds:List Int)(o:Nat):Option Nat->Bool
 | none=>true
 | some u=>Tr.aJ ds o u
def gj(ds:List Int)(un:Option Nat)(os:List Nat):List Nat:=(os.filter fun o=>under ds o un).reverse
def Q8:Sp:=fun vs H Q _ => ∃(t ye:Addr)(rs:List Rm)(un:Option Nat)(os:List Nat),vs=[.ref t,pV un,.ref ye]/\cD H t rs/\Tr.Good (aA rs)/\rs.length<=40/\(∀ u,un=some u->u < rs.length)/\H ye=some (.tup (aB os))/\(∀ o∈os,o < rs.length)/\os.length<=40/\os.Pairwise (· < ·) ∧
 ∀(p:Addr)(H':Hp),aM H H'->H p=none->H' p=some (.lst (aB (gj (aA rs) un os)))->Q (.ref p) H'
theorem t8(k:Nat)(os:List Nat):inV (.int (k:Int)) (aB os)=decide (k∈os):=by
 rw[Bool.eq_iff_iff,decide_eq_true_iff]
 constructor
 ·intro h
  obtain⟨o,ho,e⟩:=Kf h
  rw[show k=o by lia]
  exact ho
 ·intro h
  unfold inV aB
  rw[List.any_map,List.any_eq_true]
  exact⟨k,h,by simp [Ua]⟩
end vK
namespace jA
open PySem L2 mR oU tZ
section
variable{P:Program}{w:World}{K:PySem.W.Frag}{mg:Str->Option Value}{base:Heap}
theorem qm:aN ["rooms","under","opening","end"] ["rooms","under","opening"] (aG QW):=⟨rfl,rfl,rfl,by decide +kernel,rfl,by decide +kernel,by decide +kernel⟩
theorem yo{n:Nat}{f ge:Addr}{fd de:FuncData}(F:cZ K "goings_out" "goings_out" QW f fd)(jg:aL P w K mg base aq n ge de ["rooms","room"] Eb)(jc:Binds K de ["rooms","room"] [])(jZ:KI K ge)(jW:mg "end_of" = some (.ref ge))(dB:mg "sorted" = none) :
  aL P w K mg base aq (n+1) f fd ["rooms","under","opening"] vK.Q8:=by
 refine F.ok qm (fun vs H Q E h=>?_) (fun cdv A outer s H vs Q E hr h=>?_)
 ·refine aK fun G_ g_=>?_
  obtain⟨t,ye,rs,un,os,rfl,_⟩:=h
  refine g_ ?_;clear g_
  rfl
 refine aK fun G_ g_=>?_
 obtain⟨t,ye,rs,un,os,rfl,hR,good,lg,hun,hto,hos,los,inc,q⟩:=h
 refine g_ ?_;clear g_
 refine⟨_,(zE (yD (zL CJ (pv 1) fV (zR _))
  (zG (zO (wZ rfl dB (zA (pv 2) zD))))
  zT)
  (zE (zK (i:=3) qm.nd rfl (Or.inr rfl) (zJ jg hr rfl jW jZ jc .nil yE (zA (pv 0) (zA (pv 1) zD))))
  (zG (zO (wZ rfl dB (zA (yT (bY:=[(1,"under"),(3,"end")]) rfl (show bQ (aG QW) ["rooms","under","opening","end"] _ _ _ from ⟨rfl,rfl,by decide +kernel,by decide +kernel,by decide +kernel,by decide +kernel,by decide +kernel⟩) (nJ (pv 2)) (fun _ _ _ _ _ _=>bU (Xz lQ lQ (pv 1) (pv 0) (pv 2))) (fun _ _ _ _ _ _=>(pv 0))) zD)))))),?_⟩
 have dl:=yV rs
 cases un with
 | none=>
  refine⟨_,rfl,rfl,_,rfl,vG rfl ⟨_,rfl,ye,_,rfl,.inr (aH.of (by rw[<-cO];exact hto)),by rw[cM];lia,fun p rs' hp perm M6=>?_⟩⟩
  have e:=uZ perm M6 inc
  subst e
  refine q p _ (zF hp _) hp ?_
  rw[zC]
  show some (HO.lst _)=some (HO.lst (aB (vK.gj (aA rs) none os)))
  rw[show vK.gj (aA rs) none os=os.reverse by
   unfold vK.gj
   rw[(List.filter_eq_self (p:=fun o=>vK.under (aA rs) o none)).mpr fun _ _=>rfl],<-cO]
  rfl
 | some u=>
  have hu:=hun u rfl
  refine⟨_,rfl,rfl,_,rfl,uQ rfl ⟨_,rfl,_,rfl,t,rs,u,rfl,hR,lg,hu,fun e he=>?_⟩⟩
  refine⟨_,rfl,ye,rfl,⟨_,aH.of hto⟩,?_⟩
  refine mD (K:=K) (a:=ye) (xs:=aB os) (fun i acc H'=>H'=H/\acc=aB ((os.take i).filter fun o=>Tr.aJ (aA rs) o u)) ⟨rfl,rfl⟩ (fun i acc H' ⟨e,_⟩=>by subst e;exact aH.of hto) (fun i x acc H' hx ⟨e1,e2⟩=>?_) (fun acc H' ⟨e1,e2⟩ p hp=>?_)
  ·subst e1 e2
   obtain⟨hi,rfl⟩:=yR hx
   have ho:=hos _ (fB hi)
   have el:=Tr.xO he (a:=os[i]) (by lia)
   refine⟨_,rfl,_,rfl,_,_,(e:Int),rfl,rfl,⟨_,rfl,rfl,rfl⟩,_,rfl,?_⟩
   have ec:(decide ((u:Int) < ((os[i]:Nat):Int)) && decide (((os[i]:Nat):Int) < (e:Int)))=Tr.aJ (aA rs) os[i] u:=by
    rw[el]
    congr 1
    ·exact decide_eq_decide.mpr (by lia)
    ·exact decide_eq_decide.mpr (by lia)
   rw[bH (cj hi)]
   have ll:=jh (fun o=>Tr.aJ (aA rs) o u) (os.take i)
   rw[dN]at ll
   refine cW (fun c=>?_) (fun c=>?_)
   ·have c':Tr.aJ (aA rs) os[i] u=true:=ec.symm.trans c
    rw[if_pos c',<-iB]
    exact⟨_,rfl,zV (by rw[zU];lia),rfl,rfl⟩
   ·have c':Tr.aJ (aA rs) os[i] u=false:=ec.symm.trans c
    rw[if_neg (by rw[c'];exact mU),dM]
    exact⟨rfl,rfl⟩
  subst e1 e2
  rw[tW (by rw[zU];exact bu _)]
  have ll:=jh (fun o=>Tr.aJ (aA rs) o u) os
  refine⟨p,_,rfl,.inl (aX.of (by rw[zC];unfold aB;rw[cO])),by rw[cM];lia,fun p2 rs' hp2 perm M6=>?_⟩
  have e:=uZ perm M6 (inc.filter _)
  subst e
  refine q p2 _ ((zF hp _).trans (zF hp2 _)) ((zF hp _).free hp2) ?_
  rw[zC,<-cO]
  rfl
def kindAt(rs:List Rm)(p:Nat):Str:=(rs.map (·.kind)).getD p ("" : Str)
theorem jF{rs:List Rm}{p:Nat}{r:Rm}(h:rs[p]? = some r):kindAt rs p=r.kind:=by
 unfold kindAt
 rw[jl,qd,h]
 rfl
def iu(rs:List Rm)(p:Nat):Bool:=decide (kindAt rs p=("all" : Str))
def Mf(rs:List Rm)(p:Nat):Bool:=decide (kindAt rs p=("one" : Str))
theorem Bh{ds:List Int}{j k:Nat}(hj:j < ds.length)(h:Tr.par ds j=some k):k+1 < ds.length/\ds.getD k 0 < ds.getD (k+1) 0:=by
 obtain⟨h1,h2,h3⟩:=Tr.jt.mp h
 refine⟨by lia,?_⟩
 by_cases q:j=k+1
 ·rw[<-q]
  exact h2
 ·have:=h3 (k+1) (by lia) (by lia)
  lia
theorem Jl.par{rs:List Rm}(f:Jl rs){j k:Nat}(hj:j < rs.length)(h:Tr.par (aA rs) j=some k):iu rs k=true ∨ Mf rs k=true:=by
 have ld:=yV rs
 obtain⟨a,b⟩:=Bh (by lia) h
 have e:=cj (show k < rs.length by lia)
 have q:=f k _ e
 rw[if_pos ⟨by lia,b⟩]at q
 unfold iu Mf
 rw[jF e]
 rcases q with q | q
 ·exact .inr (decide_eq_true q)
 ·exact .inl (decide_eq_true q)
theorem Jl.one{rs:List Rm}(g:Tr.Good (aA rs))(f:Jl rs)(k:Nat)(h:Mf rs k=true):Tr.kids (aA rs) k ≠ []:=by
 have h':=of_decide_eq_true h
 have ld:=yV rs
 by_cases hk:k < rs.length
 ·have e:=cj hk
  rw[jF e]at h'
  have q:=f k _ e
  by_cases c:k+1 < rs.length/\(aA rs).getD k 0 < (aA rs).getD (k+1) 0
  ·have m:k+1∈Tr.kids (aA rs) k:=Tr.bC.mpr ⟨by lia,Tr.jt.mpr ⟨by lia,c.2,fun i h1 h2=>by lia⟩⟩
   intro z
   rw[z]at m
   cases m
  ·rw[if_neg c,h']at q
   exact absurd q (by decide)
 ·unfold kindAt at h'
  rw[jl,List.getElem?_eq_none (by rw[cM];lia)]at h'
  exact absurd h' (by decide)
def qX(H:Hp)(pg:Addr)(rs:List Rm)(gs:List Nat):Prop:=H pg=some (.lst (aB gs))/\(∀ g∈gs,g < rs.length)/\gs.length<=100
theorem qX.mono{H H':Hp}{pg:Addr}{rs:List Rm}{gs:List Nat}(h:qX H pg rs gs)(s:aM H H'):qX H' pg rs gs:=⟨s _ _ h.1,h.2⟩
def K4:Sp:=fun vs H Q _ => ∃(t pg:Addr)(rs:List Rm)(k:Nat)(gs:List Nat),vs=[.ref t,.int (k:Int),.ref pg]/\cD H t rs/\rs.length<=40/\k < rs.length/\qX H pg rs gs/\∀ H',aM H H'->Q (.bl (Tr.bears (aA rs) gs k)) H'
def Q9:Sp:=fun vs H Q _ => ∃(t pg:Addr)(rs:List Rm)(k:Nat)(gs:List Nat),vs=[.ref t,.int (k:Int),.ref pg]/\cD H t rs/\Tr.Good (aA rs)/\rs.length<=40/\k < rs.length/\qX H pg rs gs ∧
 ∀(p:Addr)(H':Hp),aM H H'->H p=none->H' p=some (.lst (aB (Tr.next (aA rs) (iu rs) gs k)))->Q (.ref p) H'
def qB3:Sp:=fun vs H Q _ => ∃(t pg:Addr)(rs:List Rm)(un:Option Nat)(gs:List Nat),vs=[.ref t,pV un,.ref pg]/\cD H t rs/\Tr.Good (aA rs)/\rs.length<=40/\(∀ u,un=some u->u < rs.length)/\qX H pg rs gs ∧
 ∀(p:Addr)(ms:List Nat)(H':Hp),aM H H'->H p=none->H' p=some (.lst (aB ms))->Tr.Ov (aA rs) (iu rs) gs un ms->Q (.ref p) H'
theorem qp:aN ["rooms","room","goals","end"] ["rooms","room","goals"] (aG wW):=⟨rfl,rfl,rfl,by decide +kernel,rfl,by decide +kernel,by decide +kernel⟩
theorem yp{n:Nat}{f ge:Addr}{fd de:FuncData}(F:cZ K "bears_goal" "bears_goal" wW f fd)(jg:aL P w K mg base aq n ge de ["rooms","room"] Eb)(jc:Binds K de ["rooms","room"] [])(jZ:KI K ge)(jW:mg "end_of" = some (.ref ge))(Kg:mg "any" = none) :
  aL P w K mg base aq (n+1) f fd ["rooms","room","goals"] K4:=by
 refine F.ok qp (fun vs H Q E h=>?_) (fun cdv A outer s H vs Q E hr h=>?_)
 ·refine aK fun G_ g_=>?_
  obtain⟨t,pg,rs,k,gs,rfl,_⟩:=h
  refine g_ ?_;clear g_
  rfl
 refine aK fun G_ g_=>?_
 obtain⟨t,pg,rs,k,gs,rfl,hR,lg,hk,hG,q⟩:=h
 refine g_ ?_;clear g_
 refine⟨_,(zE (zK (i:=3) qp.nd rfl (Or.inr rfl) (zJ jg hr rfl jW jZ jc .nil yE (zA (pv 0) (zA (pv 1) zD))))
  (zG (zO (zS (uW rfl) rfl Kg PyProof.Rows.boot_any (zA (yT (bY:=[(1,"room"),(3,"end")]) rfl (show bQ (aG wW) ["rooms","room","goals","end"] _ _ _ from ⟨rfl,rfl,by decide +kernel,by decide +kernel,by decide +kernel,by decide +kernel,by decide +kernel⟩) (yM (pv 2)) (fun _ _ _ _ _ _=>fG) (fun _ _ _ _ _ _=>(Y7 Qo lQ (pv 1) (pv 0) (pv 2)))) zD))))),?_⟩
 refine aK fun G_ g_=>?_
 obtain⟨hg,hgl,hg100⟩:=hG
 refine g_ ?_;clear g_
 have dl:=yV rs
 refine⟨_,rfl,_,rfl,t,rs,k,rfl,hR,lg,hk,fun e he=>?_⟩
 refine⟨_,rfl,pg,rfl,⟨_,aX.of hg⟩,?_⟩
 refine yS (K:=K) (a:=pg) (xs:=aB gs) (fun i acc H'=>H'=H/\acc=((gs.take i).map fun g:Nat=>(decide ((k:Int)<=(g:Int)) && decide ((g:Int) < (e:Int)))).map V.bl) ⟨rfl,rfl⟩ (fun i acc H' ⟨e,_⟩=>by subst e;exact aX.of hg) (fun i x acc H' hx ⟨e1,e2⟩=>?_) (fun acc H' ⟨e1,e2⟩ p hp=>?_)
 ·subst e1 e2
  obtain⟨hi,rfl⟩:=yR hx
  refine⟨_,rfl,_,rfl,_,_,(e:Int),rfl,rfl,⟨_,rfl,rfl,rfl⟩,zV (by rw[cM,cM,dN];lia),rfl,?_⟩
  rw[gB,cj hi,jH,jH]
  rfl
 subst e1 e2
 rw[tW (by rw[zU];exact bu _)]
 refine⟨p,_,rfl,aX.of zC,?_⟩
 have z:=q (upd H' p (.lst ((gs.map fun g:Nat=>(decide ((k:Int)<=(g:Int)) && decide ((g:Int) < (e:Int)))).map V.bl))) (zF hp _)
 have ee:(gs.map fun g:Nat=>(decide ((k:Int)<=(g:Int)) && decide ((g:Int) < (e:Int)))).any id=Tr.bears (aA rs) gs k:=by
  unfold Tr.bears
  rw[List.any_map,Bool.eq_iff_iff,List.any_eq_true,List.any_eq_true]
  have he1:=he.lt
  have pt:∀ g∈gs,((id ∘ fun g:Nat=>(decide ((k:Int)<=(g:Int)) && decide ((g:Int) < (e:Int)))) g=true ↔ (g == k || Tr.aJ (aA rs) g k)=true):=fun g hg'=>by
   have:=hgl g hg'
   rw[Tr.xO he (by lia)]
   show (decide ((k:Int)<=(g:Int)) && decide ((g:Int) < (e:Int)))=true ↔ _
   rw[Bool.or_eq_true,Bool.and_eq_true,Bool.and_eq_true,decide_eq_true_iff,decide_eq_true_iff,decide_eq_true_iff,decide_eq_true_iff,beq_iff_eq]
   lia
  exact⟨fun ⟨g,a,b⟩=>⟨g,a,(pt g a).mp b⟩,fun ⟨g,a,b⟩=>⟨g,a,(pt g a).mpr b⟩⟩
 rw[ee]
 exact z
theorem qx:aN ["rooms","room","goals","own","kid"] ["rooms","room","goals"] (aG K7):=⟨rfl,rfl,rfl,by decide +kernel,rfl,by decide +kernel,by decide +kernel⟩
theorem Hr{n:Nat}{f gk gb:Addr}{fd dk db:FuncData}(F:cZ K "next_in" "next_in" K7 f fd)
  (qAH:aL P w K mg base aq n gk dk ["rooms","room"] QF) (qAB:Binds K dk ["rooms","room"] []) (Yk:KI K gk) (YX:mg "kids" = some (.ref gk))
  (Di:aL P w K mg base aq n gb db ["rooms","room","goals"] K4) (DW:Binds K db ["rooms","room","goals"] []) (Cp:KI K gb) (Cd:mg "bears_goal" = some (.ref gb)) :
  aL P w K mg base aq (n+1) f fd ["rooms","room","goals"] Q9:=by
 refine F.ok qx (fun vs H Q E h=>?_) (fun cdv A outer s H vs Q E hr h=>?_)
 ·refine aK fun G_ g_=>?_
  obtain⟨t,pg,rs,k,gs,rfl,_⟩:=h
  refine g_ ?_;clear g_
  rfl
 refine aK fun G_ g_=>?_
 obtain⟨t,pg,rs,k,gs,rfl,hR,good,lg,hk,hG,q⟩:=h
 refine g_ ?_;clear g_
 refine⟨_,(zE (zK (i:=3) qx.nd rfl (Or.inl rfl) (zJ qAH hr rfl YX Yk qAB .nil yE (zA (pv 0) (zA (pv 1) zD))))
  (zE (yD (zL yG (yB zH (yB zH (pv 0) (pv 1) (fun _ _=>rfl)) zB (fun _ _=>rfl)) zP (zR _))
  (zG (zO (pv 3)))
  zT)
  (zZ (bN PassesOwn.never rfl (yM (pv 3)) (yJ (i:=4) qx.nd rfl (Or.inl rfl))
  (zG (yD (c7 (zJ Di hr rfl Cd Cp DW .nil yE (zA (pv 0) (zA (pv 4) (zA (pv 2) zD)))))
  (zG (zO (yK (zA (pv 4) zD))))
  zT)))
  (zG (zO (fH q9 (pv 3) iM (iK zB))))))),?_⟩
 refine aK fun G_ g_=>?_
 obtain⟨vs,a,r,ht,hl,hr0,hat,ha⟩:=hR.at hk
 refine g_ ?_;clear g_
 have dl:=yV rs
 refine⟨_,rfl,_,rfl,t,rs,k,rfl,hR,good,lg,hk,fun po H1 s1 npo hpo=>?_⟩
 refine⟨_,rfl,_,rfl,t,vs,_,_,rfl,rfl,aH.of (s1 _ _ ht),hat,aD (aH.of (s1 _ _ ha)) rfl ⟨rfl,_,rfl,?_⟩⟩
 have XR:iu rs k=decide (V.str r.kind=V.str ("all" : Str)):=by
  unfold iu
  rw[jF hr0]
  exact decide_eq_decide.mpr ⟨fun z=>by rw[z],fun z=>by injection z⟩
 refine cW (fun c=>?_) (fun c=>?_)
 ·refine⟨_,rfl,q po H1 s1 npo ?_⟩
  rw[Tr.xJ (XR.trans c)]
  exact hpo
 have nal:iu rs k=false:=XR.trans c
 have kl:∀ x∈Tr.kids (aA rs) k,x < rs.length:=fun x hx=>by
  have:=(Tr.bC.mp hx).1
  lia
 have eN:Tr.next (aA rs) (iu rs) gs k=match (Tr.kids (aA rs) k).find? (Tr.bears (aA rs) gs) with
   | some j=>[j]
   | none=>(Tr.kids (aA rs) k).take 1:=by
  unfold Tr.next
  rw[if_neg (by rw[nal];exact mU)]
  all_goals (cases (Tr.kids (aA rs) k).find? (Tr.bears (aA rs) gs) <;> rfl)
 generalize hks:Tr.kids (aA rs) k=ks at hpo kl eN
 refine⟨fun σ' H'=>aM H1 H'/\(∀ x∈ks,Tr.bears (aA rs) gs x=false)/\∃ o4:Option V,σ'=[some (.ref t),some (.int (k:Int)),some (.ref pg),some (.ref po),o4],?_,?_⟩
 ·refine⟨_,rfl,po,rfl,⟨_,aX.of hpo⟩,?_⟩
  refine dC (K:=K) (a:=po) (xs:=aB ks) (fun i σ' H'=>aM H1 H'/\(∀ x∈ks.take i,Tr.bears (aA rs) gs x=false)/\∃ o4:Option V,σ'=[some (.ref t),some (.int (k:Int)),some (.ref pg),some (.ref po),o4])
   ⟨aM.refl _,fun x hx=>(by rw[List.take_zero]at hx;cases hx),_,rfl⟩ (fun i σ' H' _ ⟨s2,_⟩=>aX.of (s2 _ _ hpo)) ?_ ?_
  ·rintro j x σ' H2 hx aP
   refine aK fun G_ g_=>?_
   obtain⟨s2,hno,o4,rfl⟩:=aP
   obtain⟨hj,rfl⟩:=yR hx
   refine g_ ?_;clear g_
   have hlt:=kl _ (fB hj)
   refine⟨_,rfl,_,rfl,_,rfl,t,pg,rs,ks[j],gs,rfl,hR.mono (aF.of (s1.trans s2)),lg,hlt,hG.mono (s1.trans s2),fun H3 s3=>⟨_,rfl,?_⟩⟩
   refine cW (fun c=>?_) (fun c=>?_)
   ·refine⟨_,rfl,zI (by show 1<=1000;decide),fun p hp=>q p _ ((s1.trans (s2.trans s3)).trans (zF hp _)) ((s1.trans (s2.trans s3)).free hp) ?_⟩
    have ef:ks.find? (Tr.bears (aA rs) gs)=some ks[j]:=by
     rw[List.find?_eq_some_iff_getElem]
     exact⟨c,j,hj,rfl,fun i hi=>by rw[hno _ (by rw[List.mem_take_iff_getElem];exact⟨i,by lia,rfl⟩)];rfl⟩
    rw[zC,eN,ef]
    rfl
   ·refine⟨s2.trans s3,fun x hx=>?_,_,rfl⟩
    rw[gB,cj hj]at hx
    rcases cX.mp hx with h | h
    ·exact hno x h
    ·rw[cJ.mp h]
     exact c
  ·rintro σ' H2 aP
   refine aK fun G_ g_=>?_
   obtain⟨s2,hno,o4,rfl⟩:=aP
   refine g_ ?_;clear g_
   rw[tW (by rw[zU];exact bu _)]at hno
   exact⟨s2,hno,_,rfl⟩
 rintro σ' H2 aP
 refine aK fun G_ g_=>?_
 obtain⟨s2,hno,o4,rfl⟩:=aP
 refine g_ ?_;clear g_
 refine⟨_,rfl,_,rfl,po,_,rfl,aX.of (s2 _ _ hpo),fun p hp=>q p _ ((s1.trans s2).trans (zF hp _)) ((s1.trans s2).free hp) ?_⟩
 have ef:ks.find? (Tr.bears (aA rs) gs)=none:=by
  rw[List.find?_eq_none]
  intro x hx
  rw[hno x hx]
  exact mU
 rw[zC,eN,ef,tH _ (by decide)]
 show some (HO.lst ((aB ks).take 1))=some (HO.lst (aB (ks.take 1)))
 unfold aB
 rw[List.map_take]
theorem jD:aN ["rooms","under","goals","ahead","gone","room"] ["rooms","under","goals"] (aG sIn):=⟨rfl,rfl,rfl,by decide +kernel,rfl,by decide +kernel,by decide +kernel⟩
theorem CN{n:Nat}{f gn:Addr}{fd dn:FuncData}(F:cZ K "goings_in" "goings_in" sIn f fd)
  (Bg:aL P w K mg base aq n gn dn ["rooms","room","goals"] Q9) (Ba:Binds K dn ["rooms","room","goals"] []) (Ay:KI K gn) (An:mg "next_in" = some (.ref gn))
  (aY:mg "len" = none) (dB:mg "sorted" = none):aL P w K mg base aq (n+1) f fd ["rooms","under","goals"] qB3:=by
 refine F.ok jD (fun vs H Q E h=>?_) (fun cdv A outer s H vs Q E hr h=>?_)
 ·refine aK fun G_ g_=>?_
  obtain⟨t,pg,rs,un,gs,rfl,_⟩:=h
  refine g_ ?_;clear g_
  rfl
 refine aK fun G_ g_=>?_
 obtain⟨t,pg,rs,un,gs,rfl,hR,good,lg,hun,hG,q⟩:=h
 refine g_ ?_;clear g_
 refine⟨_,(zE (zK (i:=3) jD.nd rfl (Or.inl rfl) (rA (Et (zL CJ (pv 1) fV (zR _)) (yK (zA zB zD)) (zJ Bg hr rfl An Ay Ba .nil yE (zA (pv 0) (zA (pv 1) (zA (pv 2) zD)))))))
  (zE (zK (i:=4) jD.nd rfl (Or.inl rfl) (yK zD))
  (zZ (pM PassesOwn.never (zL fY (zS zN rfl aY PySem.boot_len (zA (pv 3) zD)) zB (zR _))
  (zE (zK (i:=5) jD.nd rfl (Or.inl rfl) (Y8 PySem.F.plainAttrs_list PySem.F.slot_list_pop PySem.F.type_list_pop YS (pv 3)))
  (zE (yI (bz PySem.F.plainAttrs_list PySem.F.slot_list_append PySem.F.type_list_append yH (pv 4) (zA (pv 5) zD)))
  (zG (yI (bz PySem.F.plainAttrs_list PySem.F.slot_list_extend PySem.F.type_list_extend jM (pv 3) (zA (zJ Bg hr rfl An Ay Ba .nil yE (zA (pv 0) (zA (pv 5) (zA (pv 2) zD)))) zD)))))))
  (zG (zO (zS jz rfl dB PyProof.Rows.boot_sorted (zA (pv 4) zD))))))),?_⟩
 have dl:=yV rs
 have pos:=good.pos
 refine⟨fun v H' => ∃(pa:Addr)(ah:List Nat),v = .ref pa/\aM H H'/\H pa=none/\H' pa=some (.lst (aB ah))/\Tr.pX (aA rs) (iu rs) gs un [] ah,?_,?_⟩
 ·cases un with
  | none=>exact⟨_,rfl,rfl,_,rfl,vG rfl ⟨zI (by show 1<=1000;decide),fun p hp=>⟨p,[0],rfl,zF hp _,hp,zC,Tr.pX.none _ _ _⟩⟩⟩
  | some u=>exact⟨_,rfl,rfl,_,rfl,uQ rfl ⟨_,rfl,_,rfl,_,rfl,t,pg,rs,u,gs,rfl,hR,good,lg,hun u rfl,hG,fun p H1 s1 np hp=>⟨p,_,rfl,s1,np,hp,Tr.pX.some _ _ _ u⟩⟩⟩
 rintro _ H1 aP
 refine aK fun G_ g_=>?_
 obtain⟨pa,ah,rfl,s1,npa,hpa,wk⟩:=aP
 refine g_ ?_;clear g_
 refine⟨Nat.zero_le _,fun pn hpn=>?_⟩
 have npn:H pn=none:=s1.free hpn
 have ne:pn ≠ pa:=fun e=>by
  rw[e,hpa]at hpn
  cases hpn
 refine⟨fun σ' H' => ∃ gone:List Nat,aM H H'/\H' pn=some (.lst (aB gone))/\Tr.pX (aA rs) (iu rs) gs un gone []/\∃ o5:Option V,σ'=[some (.ref t),some (pV un),some (.ref pg),some (.ref pa),some (.ref pn),o5],?_,?_⟩
 ·refine⟨fun m σ' H' => ∃(gone ahead:List Nat),m=rs.length - gone.length/\aM H H'/\H' pa=some (.lst (aB ahead))/\H' pn=some (.lst (aB gone))/\Tr.pX (aA rs) (iu rs) gs un gone ahead/\∃ o5:Option V,σ'=[some (.ref t),some (pV un),some (.ref pg),some (.ref pa),some (.ref pn),o5],
   ⟨_,[],ah,rfl,s1.trans (zF hpn _),(zF hpn _) _ _ hpa,zC,wk,_,rfl⟩,?_⟩
  rintro m σ' H2 aP
  refine aK fun G_ g_=>?_
  obtain⟨gone,ahead,rfl,s2,ha2,hn2,Wi,o5,rfl⟩:=aP
  refine g_ ?_;clear g_
  refine⟨_,rfl,fW rfl (.inl (aX.of ha2)) (bF ⟨_,rfl,?_⟩)⟩
  refine cW (fun c=>?_) (fun c=>?_)
  ·have c':=of_decide_eq_true c
   rw[zU]at c'
   have wl:=Wi.len pos
   refine aK fun G_ g_=>?_
   obtain⟨a,r,rfl⟩:∃ a r,ahead=a++[r]:=by
    refine⟨ahead.dropLast,ahead.getLast (fun z=>by rw[z]at c';exact absurd c' (by decide)),(List.dropLast_concat_getLast _).symm⟩
   refine g_ ?_;clear g_
   have hrl:r < rs.length:=by
    have:=(Wi.ok r (by simp)).lt pos
    lia
   rw[dJ,jj]at wl
   refine⟨fun σ' H' => ∃(SN Tj:List Nat),SN.length=gone.length+1/\aM H H'/\H' pa=some (.lst (aB Tj))/\H' pn=some (.lst (aB SN))/\Tr.pX (aA rs) (iu rs) gs un SN Tj/\∃ o5:Option V,σ'=[some (.ref t),some (pV un),some (.ref pg),some (.ref pa),some (.ref pn),o5],?_,?_⟩
   ·rintro σ' H3 aP
    refine aK fun G_ g_=>?_
    obtain⟨g2,a2,hl,rest⟩:=aP
    refine g_ ?_;clear g_
    exact⟨rs.length - g2.length,by lia,g2,a2,rfl,rest⟩
   refine⟨_,rfl,.inl ⟨rfl,_,aX.of ha2⟩,pa,_,.int (r:Int),rfl,rfl,ha2,?_,?_⟩
   ·rw[<-iB,dJ,jj,Nat.add_sub_cancel,List.getElem?_append_right (bu _),Nat.sub_self]
    rfl
   have hn3:(upd H2 pa (.lst (aB (a++[r])).dropLast)) pn=some (.lst (aB gone)):=by
    rw[zQ ne]
    exact hn2
   refine⟨_,rfl,.inl ⟨rfl,_,aX.of hn3⟩,_,rfl,pn,_,_,rfl,rfl,hn3,zV (by rw[zU];lia),?_⟩
   have s3:aM H (upd (upd H2 pa (.lst (aB (a++[r])).dropLast)) pn (.lst (aB gone++[.int (r:Int)]))):=cB npn (cB npa s2 _) _
   have ha3:(upd (upd H2 pa (.lst (aB (a++[r])).dropLast)) pn (.lst (aB gone++[.int (r:Int)]))) pa=some (.lst (aB a)):=by
    rw[zQ (Ne.symm ne),zC,<-iB,List.dropLast_concat]
   have hn4:(upd (upd H2 pa (.lst (aB (a++[r])).dropLast)) pn (.lst (aB gone++[.int (r:Int)]))) pn=some (.lst (aB (gone++[r]))):=by
    rw[zC,iB]
   generalize upd (upd H2 pa (.lst (aB (a++[r])).dropLast)) pn (.lst (aB gone++[.int (r:Int)]))=H3 at s3 ha3 hn4 ⊢
   refine⟨_,rfl,.inl ⟨rfl,_,aX.of ha3⟩,_,rfl,_,rfl,_,rfl,t,pg,rs,r,gs,rfl,hR.mono (aF.of s3),good,lg,hrl,hG.mono s3,fun px H4 s4 npx hpx=>?_⟩
   have wk3:=Wi.step
   have wl3:=wk3.len pos
   rw[dJ]at wl3
   refine⟨pa,px,_,_,rfl,rfl,s4 _ _ ha3,hpx,zI (by rw[zU,zU];rw[dJ]at wl3;lia),gone++[r],a++Tr.next (aA rs) (iu rs) gs r,by rw[dJ];rfl,cB npa (s3.trans s4) _,?_,?_,wk3,_,rfl⟩
   ·rw[zC]
    unfold aB
    rw[jH]
   ·rw[zQ ne]
    exact s4 _ _ hn4
  ·have c':=of_decide_eq_false c
   rw[zU]at c'
   have e:ahead=[]:=List.eq_nil_of_length_eq_zero (by lia)
   subst e
   exact⟨gone,s2,hn2,Wi,_,rfl⟩
 rintro σ' H2 aP
 refine aK fun G_ g_=>?_
 obtain⟨gone,s2,hn2,Wi,o5,rfl⟩:=aP
 refine g_ ?_;clear g_
 have wl:=Wi.len pos
 refine⟨_,rfl,pn,_,rfl,.inl (aX.of (by rw[hn2];unfold aB;rw[cO])),by rw[cM];lia,fun p rs' hp perm M6=>?_⟩
 have nd:gone.Nodup:=by
  have:=Wi.nd
  rw[dM]at this
  exact this
 refine aK fun G_ g_=>?_
 obtain⟨ms,rfl,rise,hpm⟩:=jo perm M6 nd
 refine g_ ?_;clear g_
 refine q p ms _ (s2.trans (zF hp _)) (s2.free hp) ?_ ⟨rise,fun k=>(hpm.mem_iff).trans (Wi.done k)⟩
 rw[zC,<-cO]
 rfl
def tQ(H:Hp)(v:V)(k:List Nat):Prop:=∃ a:Addr,v = .ref a/\H a=some (.tup (aB k))
inductive bL(H:Hp):List V->List (List Nat)->Prop where
 | nil:bL H [] []
 | cons {v:V} {k:List Nat} {vs:List V} {ks:List (List Nat)}:tQ H v k->bL H vs ks->bL H (v :: vs) (k :: ks)
theorem tQ.mono{H H':Hp}{v:V}{k:List Nat}(x:tQ H v k)(s:aF H H'):tQ H' v k:=by
 obtain⟨a,e,h⟩:=x
 exact⟨a,e,s _ _ h⟩
theorem bL.mono{H H':Hp}{vs:List V}{ks:List (List Nat)}(x:bL H vs ks)(s:aF H H'):bL H' vs ks:=by
 induction x with
 | nil=>exact .nil
 | cons h _ ih=>exact .cons (h.mono s) ih
theorem bL.length{H:Hp}{vs:List V}{ks:List (List Nat)}(x:bL H vs ks):vs.length=ks.length:=by
 induction x with
 | nil=>rfl
 | cons _ _ ih=>rw[gC,gC,ih]
theorem bL.get{H:Hp}{vs:List V}{ks:List (List Nat)}(x:bL H vs ks):∀ {i:Nat} {k:List Nat},ks[i]? = some k->∃ v,vs[i]? = some v/\tQ H v k:=by
 induction x with
 | nil=>intro i k h;simp at h
 | cons h _ ih=>
  intro i k e
  cases i with
  | zero=>
   simp at e
   subst e
   exact⟨_,rfl,h⟩
  | succ i=>exact ih (by simpa using e)
theorem bL.set{H:Hp}{vs:List V}{ks:List (List Nat)}(x:bL H vs ks){v:V}{k:List Nat}(h:tQ H v k):∀ i:Nat,bL H (vs.set i v) (ks.set i k):=by
 induction x with
 | nil=>intro i;exact .nil
 | cons h' hs ih=>
  intro i
  cases i with
  | zero=>exact .cons h hs
  | succ i=>exact .cons h' (ih i)
theorem bL.snoc{H:Hp}{vs:List V}{ks:List (List Nat)}{v:V}{k:List Nat}(x:bL H vs ks)(y:tQ H v k):bL H (vs++[v]) (ks++[k]):=by
 induction x with
 | nil=>exact .cons y .nil
 | cons h _ ih=>exact .cons h ih
def bM(rs:List Rm)(p:Nat):Str:=(rs.map (·.keeps)).getD p ("" : Str)
theorem t7{rs:List Rm}{p:Nat}{r:Rm}(h:rs[p]? = some r):bM rs p=r.keeps:=by
 unfold bM
 rw[jl,qd,h]
 rfl
def Qf(rs:List Rm)(p:Nat):Bool:=decide (kindAt rs p=("plain" : Str))
def dj(ds:List Int)(os:List Nat)(r:Nat):List Nat:=os.filter fun o=>Tr.aJ ds o r
def iY(rs:List Rm)(os:List Nat)(r:Nat):List Nat:=if bM rs r=("near" : Str) then (dj (aA rs) os r).take 1 else (dj (aA rs) os r).filter (Qf rs)
def aj(rs:List Rm)(os:List Nat)(ls:List Nat)(ks:List (List Nat)):List (List Nat):=ls.foldl (fun k r=>if bM rs r=("" : Str) then k else k.set r (iY rs os r)) ks
theorem jG(rs:List Rm)(os:List Nat):∀(ls:List Nat)(ks:List (List Nat)),(aj rs os ls ks).length=ks.length
 | [],_=>rfl
 | r :: ls,ks=>by
  show (aj rs os ls (if bM rs r=("" : Str) then ks else ks.set r (iY rs os r))).length=_
  rw[jG rs os ls]
  split
  ·rfl
  ·rw[List.length_set]
theorem yq(rs:List Rm)(os ls:List Nat)(r:Nat)(ks:List (List Nat)):aj rs os (ls++[r]) ks=if bM rs r=("" : Str) then aj rs os ls ks else (aj rs os ls ks).set r (iY rs os r):=by
 unfold aj
 rw[List.foldl_append]
 rfl
theorem pP(rs:List Rm)(os:List Nat):∀(ls:List Nat)(ks:List (List Nat))(r:Nat),r < ks.length->(aj rs os ls ks)[r]? = if r∈ls/\bM rs r ≠ ("" : Str) then some (iY rs os r) else ks[r]?
 | [],ks,r,h=>by
  rw[if_neg (fun z=>by cases z.1)]
  rfl
 | x :: ls,ks,r,h=>by
  show (aj rs os ls (if bM rs x=("" : Str) then ks else ks.set x (iY rs os x)))[r]? = _
  by_cases c:bM rs x=("" : Str)
  ·rw[if_pos c,pP rs os ls ks r h]
   by_cases e:r=x
   ·subst e
    rw[if_neg (fun z=>z.2 c),if_neg (fun z=>z.2 c)]
   ·have:(r∈x :: ls) ↔ r∈ls:=⟨fun z=>(dG.mp z).elim (fun z=>absurd z e) id,List.mem_cons_of_mem _⟩
    by_cases m:r∈ls/\bM rs r ≠ ("" : Str)
    ·rw[if_pos m,if_pos ⟨this.mpr m.1,m.2⟩]
    ·rw[if_neg m,if_neg (fun z=>m ⟨this.mp z.1,z.2⟩)]
  ·rw[if_neg c,pP rs os ls _ r (by rw[List.length_set];exact h)]
   by_cases e:r=x
   ·subst e
    rw[if_pos (show r∈r :: ls/\bM rs r ≠ ("" : Str) from ⟨List.mem_cons_self,c⟩)]
    split
    ·rfl
    ·rw[List.getElem?_set_self h]
   ·have:(r∈x :: ls) ↔ r∈ls:=⟨fun z=>(dG.mp z).elim (fun z=>absurd z e) id,List.mem_cons_of_mem _⟩
    rw[List.getElem?_set_ne (Ne.symm e)]
    by_cases m:r∈ls/\bM rs r ≠ ("" : Str)
    ·rw[if_pos m,if_pos ⟨this.mpr m.1,m.2⟩]
    ·rw[if_neg m,if_neg (fun z=>m ⟨this.mp z.1,z.2⟩)]
def Jv:Sp:=fun vs H Q _ => ∃(t pt:Addr)(rs:List Rm)(os:List Nat),vs=[.ref t,.ref pt]/\cD H t rs/\rs.length<=40/\H pt=some (.lst (aB os))/\(∀ o∈os,o < rs.length)/\os.length<=100 ∧
 ∀(p:Addr)(H':Hp),aM H H'->H' p=some (.tup (aB (os.filter (Qf rs))))->Q (.ref p) H'
def Ea:Sp:=fun vs H Q _ => ∃(t ye:Addr)(rs:List Rm)(os:List Nat)(r:Nat),vs=[.ref t,.ref ye,.int (r:Int)]/\cD H t rs/\Tr.Good (aA rs)/\rs.length<=40/\H ye=some (.tup (aB os))/\(∀ o∈os,o < rs.length)/\os.length<=40/\os.Pairwise (· < ·)/\r < rs.length ∧
 ∀(p:Addr)(H':Hp),aM H H'->H' p=some (.tup (aB (iY rs os r)))->Q (.ref p) H'
def zx:Sp:=fun vs H Q _ => ∃(t ye pl pk:Addr)(rs:List Rm)(os ls:List Nat)(kv:List V)(ks:List (List Nat)),vs=[.ref t,.ref ye,.ref pl,.ref pk]/\cD H t rs/\Tr.Good (aA rs)/\rs.length<=40/\H ye=some (.tup (aB os))/\(∀ o∈os,o < rs.length)/\os.length<=40/\os.Pairwise (· < ·)/\H pl=some (.lst (aB ls))/\(∀ l∈ls,l < rs.length)/\H pk=some (.tup kv)/\bL H kv ks/\ks.length=rs.length ∧
 ∀(p:Addr)(ur:List V)(H':Hp),aM H H'->H' p=some (.tup ur)->bL H' ur (aj rs os ls ks)->Q (.ref p) H'
theorem yh:aN ["rooms","told"] ["rooms","told"] (aG wV):=⟨rfl,rfl,rfl,by decide +kernel,rfl,by decide +kernel,by decide +kernel⟩
theorem ym{f:Addr}{fd:FuncData}(F:cZ K "plain_ones" "plain_ones" wV f fd)(aa:mg "tuple" = none):aL P w K mg base aq 1 f fd ["rooms","told"] Jv:=by
 refine F.ok yh (fun vs H Q E h=>?_) (fun cdv A outer s H vs Q E hr h=>?_)
 ·refine aK fun G_ g_=>?_
  obtain⟨t,pt,rs,os,rfl,_⟩:=h
  refine g_ ?_;clear g_
  rfl
 refine aK fun G_ g_=>?_
 obtain⟨t,pt,rs,os,rfl,hR,lg,hpt,hos,los,q⟩:=h
 refine g_ ?_;clear g_
 refine⟨_,(zG (zO (yA zX rfl aa PyProof.Rows.boot_tuple (zA (yT (bY:=[(0,"rooms")]) rfl (show bQ (aG wV) ["rooms","told"] _ _ _ from ⟨rfl,rfl,by decide +kernel,by decide +kernel,by decide +kernel,by decide +kernel,by decide +kernel⟩) (yM (pv 1)) (fun _ _ _ _ _ _=>bU (zL yG (yB (r:=fj K) zH (yB (r:=fj K) zH (pv 1) (pv 0) (fun _ _=>rfl)) zB (fun _ _=>rfl)) zP (zR _))) (fun _ _ _ _ _ _=>(pv 0))) zD)))),?_⟩
 refine⟨_,rfl,pt,rfl,⟨_,aX.of hpt⟩,?_⟩
 refine yS (K:=K) (a:=pt) (xs:=aB os) (fun i acc H'=>H'=H/\acc=aB ((os.take i).filter (Qf rs))) ⟨rfl,rfl⟩ (fun i acc H' ⟨e,_⟩=>by subst e;exact aX.of hpt) (fun i x acc H' hx ⟨e1,e2⟩=>?_) (fun acc H' ⟨e1,e2⟩ p hp=>?_)
 ·subst e1 e2
  refine aK fun G_ g_=>?_
  obtain⟨hi,rfl⟩:=yR hx
  obtain⟨vs,a,r,ht,hl,hr0,hat,ha⟩:=hR.at (hos _ (fB hi))
  refine g_ ?_;clear g_
  refine⟨_,rfl,_,rfl,t,vs,_,_,rfl,rfl,aH.of ht,hat,aD (aH.of ha) rfl ⟨rfl,_,rfl,?_⟩⟩
  have ep:Qf rs os[i]=decide (V.str r.kind=V.str ("plain" : Str)):=by
   unfold Qf
   rw[jF hr0]
   exact decide_eq_decide.mpr ⟨fun z=>by rw[z],fun z=>by injection z⟩
  rw[bH (cj hi)]
  have ll:=jh (Qf rs) (os.take i)
  rw[dN]at ll
  refine cW (fun c=>?_) (fun c=>?_)
  ·rw[if_pos (ep.trans c),<-iB]
   exact⟨_,rfl,zV (by rw[zU];lia),rfl,rfl⟩
  ·rw[if_neg (by rw[show Qf rs os[i]=false from ep.trans c];exact mU),dM]
   exact⟨rfl,rfl⟩
 subst e1 e2
 rw[tW (by rw[zU];exact bu _)]
 exact⟨p,_,rfl,.inl ⟨aX.of zC,fun p2 hp2=>q p2 _ ((zF hp _).trans (zF hp2 _)) zC⟩⟩
theorem wR:aN ["rooms","opening","room","inside"] ["rooms","opening","room"] (aG vV):=⟨rfl,rfl,rfl,by decide +kernel,rfl,by decide +kernel,by decide +kernel⟩
theorem Hv{n:Nat}{f gg gp:Addr}{fd dg dp:FuncData}(F:cZ K "kept_of" "kept_of" vV f fd)
  (oM:aL P w K mg base aq n gg dg ["rooms","under","opening"] vK.Q8) (oG:Binds K dg ["rooms","under","opening"] []) (ni:KI K gg) (nR:mg "goings_out" = some (.ref gg))
  (Df:aL P w K mg base aq n gp dp ["rooms","told"] Jv) (DP:Binds K dp ["rooms","told"] []) (Ck:KI K gp) (CZ:mg "plain_ones" = some (.ref gp))
  (dB:mg "sorted" = none) (aa:mg "tuple" = none):aL P w K mg base aq (n+1) f fd ["rooms","opening","room"] Ea:=by
 refine F.ok wR (fun vs H Q E h=>?_) (fun cdv A outer s H vs Q E hr h=>?_)
 ·refine aK fun G_ g_=>?_
  obtain⟨t,ye,rs,os,r,rfl,_⟩:=h
  refine g_ ?_;clear g_
  rfl
 refine aK fun G_ g_=>?_
 obtain⟨t,ye,rs,os,r,rfl,hR,good,lg,hto,hos,los,inc,hr',q⟩:=h
 refine g_ ?_;clear g_
 refine⟨_,(zE (zK (i:=3) wR.nd rfl (Or.inl rfl) (zS jz rfl dB PyProof.Rows.boot_sorted (zA (zJ oM hr rfl nR ni oG .nil yE (zA (pv 0) (zA (pv 2) (zA (pv 1) zD)))) zD)))
  (zE (yD (zL yG (yB zH (yB zH (pv 0) (pv 2) (fun _ _=>rfl)) zB (fun _ _=>rfl)) zP (zR _))
  (zG (zO (yA zX rfl aa PyProof.Rows.boot_tuple (zA (fH q9 (pv 3) iM (iK zB)) zD))))
  zT)
  (zG (zO (zJ Df hr rfl CZ Ck DP .nil yE (zA (pv 0) (zA (pv 3) zD))))))),?_⟩
 refine aK fun G_ g_=>?_
 obtain⟨vs,a,r0,ht,hl,hr0,hat,ha⟩:=hR.at hr'
 refine g_ ?_;clear g_
 refine⟨_,rfl,_,rfl,_,rfl,t,ye,rs,some r,os,rfl,hR,good,lg,fun u e=>(by cases e;exact hr'),hto,hos,los,inc,fun pf H1 s1 npf hpf=>?_⟩
 have eo:vK.gj (aA rs) (some r) os=(dj (aA rs) os r).reverse:=rfl
 have li:=jh (fun o=>Tr.aJ (aA rs) o r) os
 have li':(dj (aA rs) os r).length<=os.length:=li
 have ri:(dj (aA rs) os r).Pairwise (· < ·):=inc.filter _
 have mi:∀ o∈dj (aA rs) os r,o < rs.length:=fun o ho=>hos o (dq.mp ho).1
 unfold iY at q
 generalize dj (aA rs) os r=xs at eo li' ri mi q
 rw[eo]at hpf
 refine⟨pf,_,rfl,.inl (aX.of (by rw[hpf];unfold aB;rw[cO])),by rw[cM,List.length_reverse];lia,fun p1 rs' hp1 perm M6=>?_⟩
 refine aK fun G_ g_=>?_
 obtain⟨ms,rfl,rise,hpm⟩:=jo perm M6 (by unfold List.Nodup;rw[List.pairwise_reverse];exact ri.imp fun z=>Ne.symm (Nat.ne_of_lt z))
 refine g_ ?_;clear g_
 obtain rfl:ms=xs:=cQ _ _ rise ri fun k=>by rw[hpm.mem_iff,List.mem_reverse]
 rw[<-cO]
 have s2:=s1.trans (zF hp1 (.lst (aB ms)))
 have h2:(upd H1 p1 (.lst (aB ms))) p1=some (.lst (aB ms)):=zC
 change _ at s2
 refine⟨_,rfl,_,rfl,t,vs,_,_,rfl,rfl,aH.of (s2 _ _ ht),hat,aD (aH.of (s2 _ _ ha)) rfl ⟨rfl,_,rfl,?_⟩⟩
 have ek:(bM rs r=("near" : Str)) ↔ V.str r0.keeps=V.str ("near" : Str):=by
  rw[t7 hr0]
  exact⟨fun z=>by rw[z],fun z=>by injection z⟩
 refine cW (fun c=>?_) (fun c=>?_)
 ·have c':=ek.mpr (of_decide_eq_true c)
  refine⟨_,rfl,_,rfl,p1,_,rfl,aX.of h2,fun p2 hp2=>?_⟩
  rw[tH _ (by decide)]
  have e2:(aB ms).take (1:Int).toNat=aB (ms.take 1):=by
   unfold aB
   rw[List.map_take]
   rfl
  rw[e2]
  refine⟨p2,_,rfl,.inl ⟨aX.of zC,fun p3 hp3=>?_⟩⟩
  refine q p3 _ ((s2.trans (zF hp2 _)).trans (zF hp3 _)) ?_
  rw[zC,if_pos c']
 ·have c':¬ bM rs r=("near" : Str):=fun z=>of_decide_eq_false c (ek.mp z)
  refine⟨_,rfl,_,rfl,t,p1,rs,ms,rfl,hR.mono (aF.of s2),lg,h2,mi,by lia,fun p2 H3 s3 hp2=>?_⟩
  refine q p2 H3 (s2.trans s3) ?_
  rw[if_neg c']
  exact hp2
theorem qy:aN ["rooms","opening","left","kept","told","room"] ["rooms","opening","left","kept"] (aG rY):=⟨rfl,rfl,rfl,by decide +kernel,rfl,by decide +kernel,by decide +kernel⟩
theorem Hw{n:Nat}{f gk:Addr}{fd dk:FuncData}(F:cZ K "keeping" "keeping" rY f fd)
  (P0:aL P w K mg base aq n gk dk ["rooms","opening","room"] Ea) (Oi:Binds K dk ["rooms","opening","room"] []) (Nq:KI K gk) (N6:mg "kept_of" = some (.ref gk))
  (dH:mg "list" = none) (aa:mg "tuple" = none):aL P w K mg base aq (n+1) f fd ["rooms","opening","left","kept"] zx:=by
 refine F.ok qy (fun vs H Q E h=>?_) (fun cdv A outer s H vs Q E hr h=>?_)
 ·refine aK fun G_ g_=>?_
  obtain⟨t,ye,pl,pk,rs,os,ls,kv,ks,rfl,_⟩:=h
  refine g_ ?_;clear g_
  rfl
 refine aK fun G_ g_=>?_
 obtain⟨t,ye,pl,pk,rs,os,ls,kv,ks,rfl,hR,good,lg,hto,hos,los,inc,hpl,hls,Cr,hks,Yc,q⟩:=h
 refine g_ ?_;clear g_
 refine⟨_,(zE (zK (i:=4) qy.nd rfl (Or.inl rfl) (yA eO rfl dH PyProof.Rows.boot_list (zA (pv 3) zD)))
  (zZ (bN PassesOwn.never rfl (yM (pv 2)) (yJ (i:=5) qy.nd rfl (Or.inl rfl))
  (zG (yD (zL Ez (yB zH (yB zH (pv 0) (pv 5) (fun _ _=>rfl)) zB (fun _ _=>rfl)) zP (zR _))
  (zG (Hc (zJ P0 hr rfl N6 Nq Oi .nil yE (zA (pv 0) (zA (pv 1) (zA (pv 5) zD)))) (Hg (pv 4) (pv 5) set_list)))
  zT)))
  (zG (zO (yA zX rfl aa PyProof.Rows.boot_tuple (zA (pv 4) zD)))))),?_⟩
 refine⟨_,rfl,fW rfl (.inr (aH.of Cr)) (fun pt hpt=>?_)⟩
 have s1:=zF hpt (.lst kv)
 refine⟨fun σ' H' => ∃ ur:List V,aM H H'/\H' pt=some (.lst ur)/\bL H' ur (aj rs os ls ks)/\∃ o5:Option V,σ'=[some (.ref t),some (.ref ye),some (.ref pl),some (.ref pk),some (.ref pt),o5],?_,?_⟩
 ·refine⟨_,rfl,pl,rfl,⟨_,aX.of (s1 _ _ hpl)⟩,?_⟩
  refine dC (K:=K) (a:=pl) (xs:=aB ls) (fun i σ' H' => ∃ ur:List V,aM H H'/\H' pt=some (.lst ur)/\bL H' ur (aj rs os (ls.take i) ks)/\∃ o5:Option V,σ'=[some (.ref t),some (.ref ye),some (.ref pl),some (.ref pk),some (.ref pt),o5])
   ⟨kv,s1,zC,hks.mono (aF.of s1),_,rfl⟩ (fun i σ' H' _ ⟨_,s2,_⟩=>aX.of (s2 _ _ hpl)) ?_ ?_
  ·rintro i x σ' H2 hx aP
   refine aK fun G_ g_=>?_
   obtain⟨Ye,s2,h2,hk2,o5,rfl⟩:=aP
   obtain⟨hi,rfl⟩:=yR hx
   have hlt:=hls _ (fB hi)
   obtain⟨vs,a,r0,ht,hl,hr0,hat,ha⟩:=hR.at hlt
   refine g_ ?_;clear g_
   have lk2:=hk2.length
   rw[jG]at lk2
   have es:aj rs os (ls.take (i+1)) ks=if bM rs ls[i]=("" : Str) then aj rs os (ls.take i) ks else (aj rs os (ls.take i) ks).set ls[i] (iY rs os ls[i]):=by
    rw[gB,cj hi]
    exact yq rs os _ _ ks
   refine⟨_,rfl,_,rfl,t,vs,_,_,rfl,rfl,aH.of (s2 _ _ ht),hat,aD (aH.of (s2 _ _ ha)) rfl ⟨rfl,_,rfl,?_⟩⟩
   have ek:bM rs ls[i]=("" : Str) ↔ V.str r0.keeps=V.str ("" : Str):=by
    rw[t7 hr0]
    exact⟨fun z=>by rw[z],fun z=>by injection z⟩
   refine cW (fun c=>?_) (fun c=>?_)
   ·have c':¬ bM rs ls[i]=("" : Str):=fun z=>by
     have c:(!decide (V.str r0.keeps=V.str ("" : Str)))=true:=c
     rw[decide_eq_true (ek.mp z)]at c
     cases c
    rw[if_neg c']at es
    refine⟨_,rfl,_,rfl,_,rfl,t,ye,rs,os,ls[i],rfl,hR.mono (aF.of s2),good,lg,s2 _ _ hto,hos,los,inc,hlt,fun p H3 s3 hp=>?_⟩
    refine⟨_,rfl,_,rfl,pt,_,_,ls[i],rfl,rfl,s3 _ _ h2,?_,?_⟩
    ·unfold UL
     rw[if_pos (by lia),if_pos (by lia)]
     simp
    have kt:aF H3 (upd H3 pt (.lst (Ye.set ls[i] (.ref p)))):=aF.lst (s3 _ _ h2) _
    refine⟨Ye.set ls[i] (.ref p),cB hpt (s2.trans s3) _,zC,?_,_,rfl⟩
    rw[es]
    exact ((hk2.mono (aF.of s3)).mono kt).set ⟨p,rfl,kt _ _ hp⟩ _
   ·have c':bM rs ls[i]=("" : Str):=by
     have c:(!decide (V.str r0.keeps=V.str ("" : Str)))=false:=c
     rw[Bool.not_eq_false']at c
     exact ek.mpr (of_decide_eq_true c)
    rw[if_pos c']at es
    exact⟨Ye,s2,h2,by rw[es];exact hk2,_,rfl⟩
  ·rintro σ' H2 aP
   refine aK fun G_ g_=>?_
   obtain⟨Ye,s2,h2,hk2,o5,rfl⟩:=aP
   refine g_ ?_;clear g_
   rw[tW (by rw[zU];exact bu _)]at hk2
   exact⟨Ye,s2,h2,hk2,_,rfl⟩
 rintro σ' H2 aP
 refine aK fun G_ g_=>?_
 obtain⟨Ye,s2,h2,hk2,o5,rfl⟩:=aP
 refine g_ ?_;clear g_
 refine⟨_,rfl,pt,_,rfl,.inl ⟨aX.of h2,fun p hp=>?_⟩⟩
 exact q p Ye _ (s2.trans (zF hp _)) zC (hk2.mono (aF.of (zF hp _)))
end
end jA
namespace mO
open PySem L2 mR oU tZ
theorem sJ:∀(a b:List Int),a.Pairwise (· < ·)->b.Pairwise (· < ·)->(∀ k,k∈a ↔ k∈b)->a=b
 | [],[],_,_,_=>rfl
 | [],y :: b,_,_,h=>absurd ((h y).mpr List.mem_cons_self) (by simp)
 | x :: a,[],_,_,h=>absurd ((h x).mp List.mem_cons_self) (by simp)
 | x :: a,y :: b,ha,hb,h=>by
  obtain⟨a1,a2⟩:=List.pairwise_cons.mp ha
  obtain⟨b1,b2⟩:=List.pairwise_cons.mp hb
  have e:x=y:=by
   rcases dG.mp ((h x).mp List.mem_cons_self) with e | h1
   ·exact e
   ·rcases dG.mp ((h y).mpr List.mem_cons_self) with e | h2
    ·exact e.symm
    ·have:=a1 y h2
     have:=b1 x h1
     lia
  subst e
  congr 1
  refine sJ a b a2 b2 fun k=>?_
  have hk:=h k
  rw[dG,dG]at hk
  constructor
  ·intro z
   rcases hk.mp (.inr z) with e | z'
   ·subst e
    have:=a1 k z
    lia
   ·exact z'
  ·intro z
   rcases hk.mpr (.inr z) with e | z'
   ·subst e
    have:=b1 k z
    lia
   ·exact z'
def inter(os:List Nat):List Int:=os.map fun j:Nat=>(j:Int)
theorem qQ(os:List Nat):(inter os).map V.int=aB os:=by
 unfold inter aB
 rw[List.map_map]
 rfl
theorem Ie(a b:List Nat):aB a++aB b=aB (a++b):=(jH ..).symm
def bh(os:List Nat)(bx:List Int)(ds:List Dg)(ev:Int):List Nat:=os.filter fun r=>(bj (inter os) bx ds (r:Int) ev).isSome
def lO(inn:Bool)(dp:List Int)(room:Nat)(vY:List Nat):Bool:=vY.any fun o=>if inn=true then Tr.aJ dp o room else Tr.aJ dp room o
def ie(inn:Bool)(dp:List Int)(os:List Nat)(bx:List Int)(ds:List Dg)(ev:Int):List Nat:=
 ((bh os bx ds ev).filter fun r => !lO inn dp r (bh os bx ds ev)).map fun r:Nat=>(bj (inter os) bx ds (r:Int) ev).getD 0
def gA(od:Str):Bool:=decide (V.str od=V.str ("inner" : Str))
def zu:Sp:=fun vs H Q _ => ∃(pc t pl:Addr)(od:Str)(x1 x2 x3 x4 x6:V)(rs:List Rm)(room:Nat)(vY:List Nat),vs=[.ref pc,.int (room:Int),.ref pl]/\H pc=some (.tup [.str od,x1,x2,x3,x4,.ref t,x6])/\cD H t rs/\Tr.Good (aA rs)/\rs.length<=40/\room < rs.length/\H pl=some (.lst (aB vY))/\(∀ o∈vY,o < rs.length)/\vY.length<=1000 ∧
 ∀ H':Hp,aM H H'->Q (.bl (lO (gA od) (aA rs) room vY)) H'
def pB(n:Nat):Sp:=fun vs H Q _ => ∃(pc rE t pd o b:Addr)(od:Str)(os:List Nat)(bx:List Int)(rs:List Rm)(ds:List Dg)(dv:List V)(x1 x2 x3 x4 x:V)(ev:Int),vs=[.ref pc,.ref rE,.int ev]/\H pc=some (.tup [.str od,x1,x2,x3,x4,.ref t,.ref pd])/\cD H t rs/\Tr.Good (aA rs)/\rs.length<=40/\H pd=some (.tup dv)/\Al (Dj H) dv ds/\H rE=some (.tup [.ref o,.ref b,x])/\H o=some (.tup (aB os))/\(∀ o∈os,o < rs.length)/\os.Pairwise (· < ·)/\H b=some (.tup (bx.map V.int))/\(∀ d∈ds,d.g.ok bx.length/\d.g.ht<=n)/\ds.length<=63 ∧
 ∀(p:Addr)(H':Hp),aM H H'->H p=none->H' p=some (.lst (aB (ie (gA od) (aA rs) os bx ds ev)))->Q (.ref p) H'
section
variable{P:Program}{w:World}{K:PySem.W.Frag}{mg:Str->Option Value}{base:Heap}
theorem ql:aN ["chart","room","others","rooms"] ["chart","room","others"] (aG lN):=⟨rfl,rfl,rfl,by decide +kernel,rfl,by decide +kernel,by decide +kernel⟩
theorem Hq{n:Nat}{f gl:Addr}{fd dl:FuncData}(F:cZ K "is_outdone" "is_outdone" lN f fd)(qZ:aL P w K mg base aq n gl dl ["rooms","one","other"] jA.HH)(qU:Binds K dl ["rooms","one","other"] [])(qP:KI K gl)(qN:mg "lies_in" = some (.ref gl))(Kg:mg "any" = none) :
  aL P w K mg base aq (n+1) f fd ["chart","room","others"] zu:=by
 refine F.ok ql (fun vs H Q E h=>?_) (fun cdv A outer s H vs Q E hr h=>?_)
 ·refine aK fun G_ g_=>?_
  obtain⟨pc,t,pl,od,x1,x2,x3,x4,x6,rs,room,vY,rfl,_⟩:=h
  refine g_ ?_;clear g_
  rfl
 refine aK fun G_ g_=>?_
 obtain⟨pc,t,pl,od,x1,x2,x3,x4,x6,rs,room,vY,rfl,rF,hR,good,lg,hroom,hpl,qBZ,lots,q⟩:=h
 refine g_ ?_;clear g_
 refine⟨_,(zE (zK (i:=3) ql.nd rfl (Or.inr rfl) (yB zH (pv 0) zB (fun _ _=>rfl)))
  (zE (yD (zL yG (yB zH (pv 0) zB (fun _ _=>rfl)) zP (zR _))
  (zG (zO (zS (uW rfl) rfl Kg PyProof.Rows.boot_any (zA (yT (bY:=[(3,"rooms"),(1,"room")]) rfl (show bQ (aG lN) ["chart","room","others","rooms"] _ _ _ from ⟨rfl,rfl,by decide +kernel,by decide +kernel,by decide +kernel,by decide +kernel,by decide +kernel⟩) (yM (pv 2)) (fun _ _ _ _ _ _=>fG) (fun _ _ _ _ _ _=>(zJ qZ hr rfl qN qP qU .nil yE (zA (pv 1) (zA (pv 0) (zA (pv 2) zD)))))) zD))))
  zT)
  (zG (zO (zS (uW rfl) rfl Kg PyProof.Rows.boot_any (zA (yT (bY:=[(3,"rooms"),(1,"room")]) rfl (show bQ (aG lN) ["chart","room","others","rooms"] _ _ _ from ⟨rfl,rfl,by decide +kernel,by decide +kernel,by decide +kernel,by decide +kernel,by decide +kernel⟩) (yM (pv 2)) (fun _ _ _ _ _ _=>fG) (fun _ _ _ _ _ _=>(zJ qZ hr rfl qN qP qU .nil yE (zA (pv 1) (zA (pv 2) (zA (pv 0) zD)))))) zD)))))),?_⟩
 refine⟨_,rfl,aD (aH.of rF) rfl ?_⟩
 refine⟨_,rfl,aD (aH.of rF) rfl ⟨rfl,_,rfl,?_⟩⟩
 have go:∀(fl:Nat->Bool)(H':Hp)(p:Addr),aM H H'->(∀ o∈vY,fl o=if gA od=true then Tr.aJ (aA rs) o room else Tr.aJ (aA rs) room o)->Q (.bl ((vY.map fl).any id)) H':=fun fl H' p s' hfl=>by
  have e:(vY.map fl).any id=lO (gA od) (aA rs) room vY:=by
   unfold lO
   rw[List.any_map,Bool.eq_iff_iff,List.any_eq_true,List.any_eq_true]
   exact⟨fun ⟨o,a,b⟩=>⟨o,a,(hfl o a) ▸ b⟩,fun ⟨o,a,b⟩=>⟨o,a,show fl o=true from (hfl o a).trans b⟩⟩
  rw[e]
  exact q H' s'
 refine cW (fun c=>?_) (fun c=>?_)
 ·have ci:gA od=true:=c
  refine⟨_,rfl,pl,rfl,⟨_,aX.of hpl⟩,?_⟩
  refine yS (K:=K) (a:=pl) (xs:=aB vY) (fun i acc H'=>aM H H'/\acc=((vY.take i).map fun o:Nat=>Tr.aJ (aA rs) o room).map V.bl) ⟨aM.refl _,rfl⟩ (fun i acc H' ⟨e,_⟩=>aX.of (e _ _ hpl)) (fun i x acc H' hx ⟨e1,e2⟩=>?_) (fun acc H' ⟨e1,e2⟩ p hp=>?_)
  ·subst e2
   obtain⟨hi,rfl⟩:=jA.yR hx
   refine⟨_,rfl,_,rfl,_,rfl,t,rs,vY[i],room,rfl,hR.mono (aF.of e1),good,lg,qBZ _ (fB hi),hroom,fun H2 s2=>⟨zV (by rw[cM,cM,dN];lia),e1.trans s2,?_⟩⟩
   rw[gB,cj hi,jH,jH]
   rfl
  ·subst e2
   rw[tW (by rw[zU];exact bu _)]
   exact⟨p,_,rfl,aX.of zC,go _ _ p (e1.trans (zF hp _)) fun o _=>by rw[if_pos ci]⟩
 ·have ci:gA od=false:=c
  refine⟨_,rfl,pl,rfl,⟨_,aX.of hpl⟩,?_⟩
  refine yS (K:=K) (a:=pl) (xs:=aB vY) (fun i acc H'=>aM H H'/\acc=((vY.take i).map fun o:Nat=>Tr.aJ (aA rs) room o).map V.bl) ⟨aM.refl _,rfl⟩ (fun i acc H' ⟨e,_⟩=>aX.of (e _ _ hpl)) (fun i x acc H' hx ⟨e1,e2⟩=>?_) (fun acc H' ⟨e1,e2⟩ p hp=>?_)
  ·subst e2
   obtain⟨hi,rfl⟩:=jA.yR hx
   refine⟨_,rfl,_,rfl,_,rfl,t,rs,room,vY[i],rfl,hR.mono (aF.of e1),good,lg,hroom,qBZ _ (fB hi),fun H2 s2=>⟨zV (by rw[cM,cM,dN];lia),e1.trans s2,?_⟩⟩
   rw[gB,cj hi,jH,jH]
   rfl
  ·subst e2
   rw[tW (by rw[zU];exact bu _)]
   exact⟨p,_,rfl,aX.of zC,go _ _ p (e1.trans (zF hp _)) fun o _=>by rw[ci];rfl⟩
theorem uE:aN ["chart","stand","event","by_room","answering"] ["chart","stand","event"] (aG rz):=⟨rfl,rfl,rfl,by decide +kernel,rfl,by decide +kernel,by decide +kernel⟩
theorem Ms{n m:Nat}{f ga go:Addr}{fd da do':FuncData}(F:cZ K "chosen" "chosen" rz f fd)(PK:aL P w K mg base aq m ga da ["chart","stand","event"] (zz n))(Om:Binds K da ["chart","stand","event"] [])(Nu:KI K ga)(NB:mg "answers" = some (.ref ga))
  (Dh:aL P w K mg base aq m go do' ["chart","room","others"] zu) (DQ:Binds K do' ["chart","room","others"] []) (Cm:KI K go) (Ca:mg "is_outdone" = some (.ref go)) (dB:mg "sorted" = none) :
  aL P w K mg base aq (m+1) f fd ["chart","stand","event"] (pB n):=by
 refine F.ok uE (fun vs H Q E h=>?_) (fun cdv A outer s H vs Q E hr h=>?_)
 ·refine aK fun G_ g_=>?_
  obtain⟨pc,rE,t,pd,o,b,od,os,bx,rs,ds,dv,x1,x2,x3,x4,x,ev,rfl,_⟩:=h
  refine g_ ?_;clear g_
  rfl
 refine aK fun G_ g_=>?_
 obtain⟨pc,rE,t,pd,o,b,od,os,bx,rs,ds,dv,x1,x2,x3,x4,x,ev,rfl,rF,hR,good,lg,hpd,hds,hst,ho,hos,inc,hb,hok,l63,q⟩:=h
 refine g_ ?_;clear g_
 have hu:=Nat.lt_of_le_of_lt (Nat.add_le_add_left (show 1<=64 by decide) _) hr.units
 refine⟨_,(zE (zK (i:=3) uE.nd rfl (Or.inr rfl) (zJ PK hr rfl NB Nu Om .nil yE (zA (pv 0) (zA (pv 1) (zA (pv 2) zD)))))
  (zE (zK (i:=4) uE.nd rfl (Or.inr rfl) (zS (Cz rfl) rfl dB PyProof.Rows.boot_sorted (zA (pv 3) zD)))
  (zG (zO (yT (bY:=[(0,"chart"),(4,"answering"),(3,"by_room")]) rfl (show bQ (aG rz) ["chart","stand","event","by_room","answering"] _ _ _ from ⟨rfl,rfl,by decide +kernel,by decide +kernel,by decide +kernel,by decide +kernel,by decide +kernel⟩) (yM (pv 4)) (fun _ _ _ _ _ _=>bU (qz (c7 (zJ Dh hr rfl Ca Cm DQ .nil yE (zA (pv 1) (zA (pv 0) (zA (pv 2) zD))))))) (fun _ _ _ _ _ _=>(V4 hu (pv 3) (pv 0) (fun _ _=>rfl)))))))),?_⟩
 refine⟨_,rfl,_,rfl,_,rfl,pc,rE,pd,o,b,inter os,bx,ds,dv,_,_,_,_,_,_,_,ev,rfl,rF,hpd,hds,hst,(by rw[qQ];exact ho),hb,hok,by lia,fun pb kvs H1 s1 h1 hv ⟨ks,hks,Yc⟩ npb=>?_⟩
 refine⟨_,rfl,pb,kvs,ks,rfl,h1,hks,by lia,fun pq zs RC nd perm M6=>?_⟩
 have mk:∀ k:Int,k∈ks ↔ (bj (inter os) bx ds k ev).isSome=true:=fun k=>by
  have e1:(iT kvs (Sum.inl k)).isSome=(bj (inter os) bx ds k ev).isSome:=by
   rw[hv k]
   cases bj (inter os) bx ds k ev <;> rfl
  rw[<-e1,<-lE,List.any_eq_true]
  constructor
  ·intro z
   have:(Sum.inl k:Key)∈kvs.map (·.1):=by rw[hks];exact fO.mpr ⟨k,z,rfl⟩
   refine aK fun G_ g_=>?_
   obtain⟨kv,hkv,e⟩:=fO.mp this
   refine g_ ?_;clear g_
   exact⟨kv,hkv,decide_eq_true e⟩
  ·rintro aP
   refine aK fun G_ g_=>?_
   obtain⟨kv,hkv,e⟩:=aP
   refine g_ ?_;clear g_
   have:(Sum.inl k:Key)∈kvs.map (·.1):=fO.mpr ⟨kv,hkv,of_decide_eq_true e⟩
   rw[hks]at this
   refine aK fun G_ g_=>?_
   obtain⟨j,hj,e⟩:=fO.mp this
   refine g_ ?_;clear g_
   injection e with e
   exact e ▸ hj
 have ez:zs=inter (bh os bx ds ev):=by
  refine sJ _ _ ((M6.and (perm.nodup_iff.mpr nd)).imp fun ⟨z1,z2⟩=>by lia) (List.pairwise_map.mpr ((inc.filter _).imp fun z=>by lia)) fun k=>?_
  rw[perm.mem_iff,mk k]
  constructor
  ·intro z
   have hin:inV (.int k) ((inter os).map V.int)=true:=by
    unfold bj at z
    by_cases y:inV (.int k) ((inter os).map V.int)=true
    ·exact y
    ·rw[if_neg y]at z
     cases z
   rw[qQ]at hin
   refine aK fun G_ g_=>?_
   obtain⟨j,hj,rfl⟩:=Kf hin
   refine g_ ?_;clear g_
   exact fO.mpr ⟨j,dq.mpr ⟨hj,z⟩,rfl⟩
  ·intro z
   refine aK fun G_ g_=>?_
   obtain⟨j,hj,rfl⟩:=fO.mp z
   refine g_ ?_;clear g_
   exact (dq.mp hj).2
 subst ez
 rw[qQ]
 have la:(bh os bx ds ev).length<=63:=by
  have:=perm.length_eq
  unfold inter at this
  rw[cM]at this
  lia
 have hA:∀ r∈bh os bx ds ev,r < rs.length/\(bj (inter os) bx ds (r:Int) ev).isSome=true:=fun r hr'=>⟨hos r (dq.mp hr').1,(dq.mp hr').2⟩
 have s2:=s1.trans (zF RC (.lst (aB (bh os bx ds ev))))
 have h2:upd H1 pq (.lst (aB (bh os bx ds ev))) pq=some (.lst (aB (bh os bx ds ev))):=zC
 have hb2:=(zF RC (.lst (aB (bh os bx ds ev)))) _ _ h1
 generalize upd H1 pq (.lst (aB (bh os bx ds ev)))=H2 at s2 h2 hb2 ⊢
 refine⟨_,rfl,pq,rfl,⟨_,aX.of h2⟩,?_⟩
 refine yS (K:=K) (a:=pq) (xs:=aB (bh os bx ds ev)) (fun i acc H'=>aM H2 H'/\acc=aB ((((bh os bx ds ev).take i).filter fun r => !lO (gA od) (aA rs) r (bh os bx ds ev)).map fun r:Nat=>(bj (inter os) bx ds (r:Int) ev).getD 0)) ⟨aM.refl _,rfl⟩ (fun i acc H' ⟨e,_⟩=>aX.of (e _ _ h2)) (fun i y acc H' hy ⟨e1,e2⟩=>?_) (fun acc H' ⟨e1,e2⟩ p hp=>?_)
 ·subst e2
  obtain⟨hi,rfl⟩:=jA.yR hy
  have hm:=hA _ (fB hi)
  have et:=jA.bH (f:=fun r => !lO (gA od) (aA rs) r (bh os bx ds ev)) (cj hi)
  generalize (bh os bx ds ev)[i]=r at hm et
  have lt':(aB ((((bh os bx ds ev).take i).filter fun r => !lO (gA od) (aA rs) r (bh os bx ds ev)).map fun r:Nat=>(bj (inter os) bx ds (r:Int) ev).getD 0)).length<=63:=by
   rw[zU,cM]
   have:=jh (fun r => !lO (gA od) (aA rs) r (bh os bx ds ev)) ((bh os bx ds ev).take i)
   rw[dN]at this
   lia
  have s3:=s2.trans e1
  refine⟨_,rfl,_,rfl,_,rfl,pc,t,pq,od,_,_,_,_,_,rs,r,bh os bx ds ev,rfl,s3 _ _ rF,hR.mono (aF.of s3),good,lg,hm.1,e1 _ _ h2,(fun o ho=>(hA o ho).1),by lia,fun H4 s4=>?_⟩
  refine⟨_,rfl,?_⟩
  rw[et]
  refine cW (fun c=>?_) (fun c=>?_)
  ·have c':(!lO (gA od) (aA rs) r (bh os bx ds ev))=true:=c
   obtain⟨k,hk⟩:=Option.isSome_iff_exists.mp hm.2
   have hv':=hv (r:Int)
   rw[hk]at hv'
   have g:=Dk.k (k:=Sum.inl (r:Int)) ((e1.trans s4) _ _ hb2)
   rw[hv']at g
   refine⟨_,rfl,_,rfl,pb,_,rfl,g,zV (by lia),e1.trans s4,?_⟩
   rw[if_pos c',jH,<-Ie]
   show _=_++aB [(bj (inter os) bx ds (r:Int) ev).getD 0]
   rw[hk]
   rfl
  ·have c':¬ (!lO (gA od) (aA rs) r (bh os bx ds ev))=true:=fun z=>by
    have c:(!lO (gA od) (aA rs) r (bh os bx ds ev))=false:=c
    rw[c]at z
    cases z
   rw[if_neg c',dM]
   exact⟨e1.trans s4,rfl⟩
 ·subst e2
  rw[tW (by rw[zU];exact bu _)]
  exact q p _ (s2.trans (e1.trans (zF hp _))) ((s2.trans e1).free hp) zC
end
end mO
namespace jA
open PySem L2 mR oU yd
theorem W0(xs:List V){k:Nat}(h:k<=xs.length):lu xs none (some (k:Int))=xs.take k:=by
 unfold lu
 rw[HT.Ej,HT.vW,List.drop_zero,Nat.sub_zero,Nat.min_eq_left h]
theorem Oa(xs:List V){k:Nat}(h:k+1<=xs.length):lu xs (some ((k:Int)+1)) none=xs.drop (k+1):=by
 have e:(k:Int)+1=((k+1:Nat):Int):=by lia
 unfold lu
 rw[e,HT.Ej,HT.vW,Nat.min_eq_left h,tW (by rw[List.length_drop];exact bu _)]
theorem Um{α:Type}{xs:List α}{k:Nat}(v:α)(h:k < xs.length):xs.take k++[v]++xs.drop (k+1)=xs.set k v:=by
 rw[List.set_eq_take_append_cons_drop,if_pos h,List.append_assoc]
 rfl
section
variable{P:Program}{w:World}{K:PySem.W.Frag}{mg:Str->Option Value}{base:Heap}
theorem jP:aN ["deed","boxes","sizes","kind","box","number"] ["deed","boxes","sizes"] (aG sE):=⟨rfl,rfl,rfl,by decide +kernel,rfl,by decide +kernel,by decide +kernel⟩
theorem Hx{f:Addr}{fd:FuncData}(F:cZ K "changed" "changed" sE f fd):aL P w K mg base aq 1 f fd ["deed","boxes","sizes"] zy:=by
 refine F.ok jP (fun vs H Q E h=>?_) (fun cdv A outer s H vs Q E hr h=>?_)
 ·refine aK fun G_ g_=>?_
  obtain⟨vd,tb,ts,d,bx,sz,rfl,_⟩:=h
  refine g_ ?_;clear g_
  rfl
 refine aK fun G_ g_=>?_
 obtain⟨vd,tb,ts,d,bx,sz,rfl,hd,hb,hs,hok,hlen,h6,hpos,q⟩:=h
 refine g_ ?_;clear g_
 refine⟨_,(zE (zK (i:=3) jP.nd rfl (Or.inl rfl) (yB zH (pv 0) zB (fun _ _=>rfl)))
  (zE (yD (zL du (pv 3) (zW (zA zP (zA zP zD))) rfl)
  (zG (zO (pv 1)))
  zT)
  (zE (zK (i:=4) jP.nd rfl (Or.inl rfl) (yB zH (pv 0) zB (fun _ _=>rfl)))
  (zE (zK (i:=5) jP.nd rfl (Or.inl rfl) (yB zH (pv 0) zB (fun _ _=>rfl)))
  (zZ (yD (zL yG (pv 3) zP (zR _))
  (zG (zK (i:=5) jP.nd rfl (Or.inl rfl) (yC zY (yC yF (yB zH (pv 1) (pv 4) (fun _ _=>rfl)) (pv 5)) (yB zH (pv 2) (pv 4) (fun _ _=>rfl)))))
  zT)
  (zG (zO (yC Ka (rA (yC (mQ.or Ka Qp) (fH QQ (pv 1) iM (iK (pv 4))) (zW (zA (pv 5) zD)))) (fH QQ (pv 1) (iK (yC yF (pv 4) zB)) iM))))))))),?_⟩
 have two:(∃(a:Addr)(kd:Str)(b n:Int),vd = .ref a/\H a=some (.tup [.str kd,.int b,.int n])/\((kd = "set" /\ d = .set b n) ∨ (kd = "add" /\ d = .add b n))) ∨
   (∃(a:Addr)(kd:Str)(u:V),vd = .ref a/\H a=some (.tup [.str kd,u])/\(kd = "say" ∨ kd = "send")/\d.upd sz bx=bx):=by
  cases hd with
  | say e=>exact .inr ⟨_,_,_,rfl,e,.inl rfl,rfl⟩
  | send e=>exact .inr ⟨_,_,_,rfl,e,.inr rfl,rfl⟩
  | set e=>exact .inl ⟨_,_,_,_,rfl,e,.inl ⟨rfl,rfl⟩⟩
  | add e=>exact .inl ⟨_,_,_,_,rfl,e,.inr ⟨rfl,rfl⟩⟩
 rcases two with ⟨a,kd,b,n,rfl,e,hk⟩ | ⟨a,kd,u,rfl,e,hk,hu⟩
 ·refine⟨_,rfl,aD (aH.of e) rfl ⟨_,rfl,zI (by show 2<=1000;decide),fun p hp=>?_⟩⟩
  have s1:aM H (upd H p (.tup [.str "set",.str "add"])):=zF hp _
  have e1:=s1 _ _ e
  refine (fW rfl (.inr (aH.of zC)) ⟨rfl,rfl,_,rfl,uQ (by rcases hk with ⟨rfl,_⟩ | ⟨rfl,_⟩ <;> decide +kernel) ?_⟩)
  refine⟨_,rfl,aD (aH.of e1) rfl ⟨_,rfl,aD (aH.of e1) rfl ?_⟩⟩
  have qE7:0<=b/\b < (bx.length:Int):=by
   rcases hk with ⟨_,rfl⟩ | ⟨_,rfl⟩ <;> exact hok b rfl
  refine aK fun G_ g_=>?_
  obtain⟨hb0,hb1⟩:=qE7
  obtain⟨k,rfl⟩:∃ k:Nat,b=(k:Int):=⟨b.toNat,by lia⟩
  refine g_ ?_;clear g_
  have hkl:k < bx.length:=by lia
  refine⟨fun σ' H'=>H'=upd H p (.tup [.str "set",.str "add"])/\∃ v:Int,σ'=[some (.ref a),some (.ref tb),some (.ref ts),some (.str kd),some (.int (k:Int)),some (.int v)]/\d.upd sz bx=bx.set k v,?_,?_⟩
  ·refine⟨_,rfl,rfl,_,rfl,?_⟩
   rcases hk with ⟨rfl,rfl⟩ | ⟨rfl,rfl⟩
   ·refine yN (by decide +kernel) ?_
    refine⟨rfl,n,rfl,?_⟩
    show bx.set (k:Int).toNat n=_
    rw[Du]
   ·refine yO ?_
    refine⟨_,rfl,_,rfl,aD (aH.of (s1 _ _ hb)) (oH hb0 hb1) ⟨_,rfl,bF ⟨_,rfl,_,rfl,aD (aH.of (s1 _ _ hs)) (oH hb0 (by lia)) (bF ⟨hpos _ (Lj hb0 (by lia)),?_⟩)⟩⟩⟩
    refine⟨rfl,_,rfl,?_⟩
    show bx.set (k:Int).toNat _=_
    rw[Du]
  rintro σ' H' aP
  refine aK fun G_ g_=>?_
  obtain⟨rfl,v,rfl,hv⟩:=aP
  refine g_ ?_;clear g_
  have hb':=s1 _ _ hb
  refine⟨fun x H' => ∃ t:Addr,x = .ref t/\aM (upd H p (.tup [.str "set",.str "add"])) H'/\H' t=some (.tup ((bx.take k++[v]).map V.int)),?_,?_⟩
  ·refine⟨_,rfl,_,rfl,_,rfl,tb,_,rfl,aH.of hb',?_,fun p1 hp1=>?_⟩
   ·rw[HT.vW,cM]
    lia
   have s2:=zF hp1 (.tup (lu (bx.map V.int) none (some (k:Int))))
   refine⟨_,rfl,zI (by show 1<=1000;decide),fun p2 hp2=>?_⟩
   have e1':lu (bx.map V.int) none (some (k:Int))=(bx.take k).map V.int:=by
    rw[W0 _ (by rw[cM];lia),List.map_take]
   have s3:=zF hp2 (.tup [.int v])
   by_cases hk0:k=0
   ·subst hk0
    refine .inr ⟨p1,p2,_,rfl,rfl,aH.of (s3 _ _ (by rw[zC,e1'];rfl)),aH.of zC,?_⟩
    exact⟨p2,rfl,s2.trans s3,by rw[zC];rfl⟩
   ·refine .inl ⟨p1,p2,_,_,rfl,rfl,aH.of (s3 _ _ zC),aH.of zC,?_,?_,fun z=>(by cases z),fun _ p3 hp3=>?_⟩
    ·intro z
     have:=congrArg List.length z
     rw[e1',cM,dN,List.length_nil]at this
     lia
    ·rw[e1',cM,dN]
     exact zI (by show _+1<=1000;lia)
    ·refine⟨p3,rfl,(s2.trans s3).trans (zF hp3 _),?_⟩
     rw[zC,e1',jH]
     rfl
  rintro x H2 aP
  refine aK fun G_ g_=>?_
  obtain⟨t,rfl,s4,ht⟩:=aP
  refine g_ ?_;clear g_
  refine⟨_,rfl,_,rfl,bF ⟨_,rfl,tb,_,rfl,aH.of (s4 _ _ hb'),?_,fun p4 O2=>?_⟩⟩
  ·rw[show ((k:Int)+1)=((k+1:Nat):Int) by lia,HT.vW,cM]
   lia
  have e2':lu (bx.map V.int) (some ((k:Int)+1)) none=(bx.drop (k+1)).map V.int:=by
   rw[Oa _ (by rw[cM];lia),List.map_drop]
  have s5:=zF O2 (.tup (lu (bx.map V.int) (some ((k:Int)+1)) none))
  have all:(bx.take k++[v]).map V.int++(bx.drop (k+1)).map V.int=(d.upd sz bx).map V.int:=by
   rw[<-jH,Um v hkl,hv]
  refine⟨t,p4,_,_,rfl,rfl,aH.of (s5 _ _ ht),aH.of zC,?_,?_,fun z=>?_,fun _ p5 vq=>?_⟩
  ·intro z
   have:=congrArg List.length z
   simp at this
  ·rw[e2',cM,cM,dJ,dN,List.length_drop]
   exact zI (by show min k bx.length+1+_<=1000;lia)
  ·refine q t _ ((s1.trans s4).trans s5) ?_
   rw[s5 _ _ ht,<-all]
   rw[e2']at z
   rw[z,dM]
  ·refine q p5 _ (((s1.trans s4).trans s5).trans (zF vq _)) ?_
   rw[zC,e2',all]
 ·refine⟨_,rfl,aD (aH.of e) rfl ⟨_,rfl,zI (by show 2<=1000;decide),fun p hp=>?_⟩⟩
  refine (fW rfl (.inr (aH.of zC)) ⟨rfl,rfl,_,rfl,vG (by rcases hk with rfl | rfl <;> decide +kernel) ?_⟩)
  refine⟨_,rfl,q tb _ (zF hp _) ?_⟩
  rw[hu]
  exact zF hp _ _ _ hb
end
end jA
namespace jA
open PySem L2 mR oU Ds
theorem qBJ:¬ (("most" : Str) = "events"):=by decide +kernel
def JD(m:Nat)(d:Addr):List (Str × V):=oY "events" (.ref d) (oY "most" (.int (m:Int)) [])
theorem iZ(m:Nat)(d:Addr):(JD m d).lookup ("events" : Str)=some (.ref d):=by
 unfold JD
 rw[dY,if_pos rfl]
theorem O7(m:Nat)(d:Addr):(JD m d).lookup ("most" : Str)=some (.int (m:Int)):=by
 unfold JD
 rw[dY,if_neg qBJ,dY,if_pos rfl]
theorem Cw(m:Nat)(d:Addr){x:Str}(h1:¬ x = "events")(h2:¬ x = "most"):(JD m d).lookup x=none:=by
 unfold JD
 rw[dY,if_neg h1,dY,if_neg h2]
 all_goals rfl
def LL(C:Addr):LA:=fun H p fp m l => ∃ dx d:Addr,fp=[p,d]/\H p=some (.ins C dx (JD m d))/\H d=some (.lst (l.map V.int))
theorem jB(C:Addr):qCE C (LL C) where
 keep:=by
  rintro H H' p fp m l ⟨dx,d,rfl,h1,h2⟩ k
  exact⟨dx,d,rfl,k p (by simp) _ h1,k d (by simp) _ h2⟩
 there:=by
  rintro H p fp m l ⟨dx,d,rfl,h1,h2⟩ b hb
  rcases dG.mp hb with rfl | hb
  ·rw[h1]
   intro z
   cases z
  ·rw[cJ.mp hb,h2]
   intro z
   cases z
 obj:=by
  rintro H p fp m l ⟨dx,d,rfl,h1,h2⟩
  exact⟨dx,_,h1,Cw _ _ (by decide +kernel) (by decide +kernel),Cw _ _ (by decide +kernel) (by decide +kernel),Cw _ _ (by decide +kernel) (by decide +kernel)⟩
section
variable{P:Program}{w:World}{K:PySem.W.Frag}{mg:Str->Option Value}{base:Heap}{C:Addr}
theorem Up:aN ["self","most"] ["self","most"] (aG K9):=⟨rfl,rfl,rfl,by decide +kernel,rfl,by decide +kernel,by decide +kernel⟩
theorem VN{f:Addr}{fd:FuncData}(F:cZ K "__init__" "Letters.__init__" K9 f fd)(cl:Dt K C)(nM:iy K C "most")(nE:iy K C "events"):aL P w K mg base aq 1 f fd ["self","most"] (QH C (LL C)):=by
 refine F.ok Up (fun vs H Q E h=>?_) (fun cdv A outer s H vs Q E hr h=>?_)
 ·refine aK fun G_ g_=>?_
  obtain⟨p,dx,m,rfl,_⟩:=h
  refine g_ ?_;clear g_
  rfl
 refine aK fun G_ g_=>?_
 obtain⟨p,dx,m,rfl,hp,hm,k⟩:=h
 refine g_ ?_;clear g_
 refine⟨_,(zE (Qe (pv 0) (pv 1) rfl) (zG (Qe (pv 0) (yK zD) rfl))),?_⟩
 refine⟨_,rfl,_,rfl,p,C,dx,[],rfl,hp,cl,nM,(by show 0 < 1000;decide),Nat.zero_le _,fun d hd=>?_⟩
 have UG:p ≠ d:=fun z=>by
  rw[<-z,zC]at hd
  cases hd
 have hd0:H d=none:=by
  rw[zQ (Ne.symm UG)]at hd
  exact hd
 refine⟨_,rfl,p,C,dx,_,rfl,(by rw[zQ UG];exact zC),cl,nE,(by show 1 < 1000;decide),?_⟩
 refine k [p,d] _ ⟨dx,d,rfl,zC,by rw[zQ (Ne.symm UG),zC];rfl⟩ (fun b hb=>?_) fun b o e hb=>?_
 ·rcases dG.mp hb with rfl | hb
  ·exact .inl rfl
  ·rw[cJ.mp hb]
   exact .inr hd0
 ·rw[zQ hb,zQ (zM e hd0),zQ hb]
  exact e
theorem Xn:aN ["self","event"] ["self","event"] (aG Uq):=⟨rfl,rfl,rfl,by decide +kernel,rfl,by decide +kernel,by decide +kernel⟩
theorem YJ{f:Addr}{fd:FuncData}(F:cZ K "add" "Letters.add" Uq f fd)(cl:Dt K C)(nM:iy K C "most")(nE:iy K C "events")(aY:mg "len" = none):aL P w K mg base aq 1 f fd ["self","event"] (Wm (LL C)):=by
 refine F.ok Xn (fun vs H Q E h=>?_) (fun cdv A outer s H vs Q E hr h=>?_)
 ·refine aK fun G_ g_=>?_
  obtain⟨p,fp,m,l,e,rfl,_⟩:=h
  refine g_ ?_;clear g_
  rfl
 refine aK fun G_ g_=>?_
 obtain⟨p,fp,m,l,e,rfl,⟨dx,d,rfl,h1,h2⟩,hl,hm,k⟩:=h
 refine g_ ?_;clear g_
 refine⟨_,(zE (yD (zL Wu (zS zN rfl aY PySem.boot_len (zA (uL (pv 0) rfl) zD)) (uL (pv 0) rfl) (zR _))
  (zG (zO gU))
  zT)
  (zE (yI (bz PySem.F.plainAttrs_list PySem.F.slot_list_append PySem.F.type_list_append yH (uL (pv 0) rfl) (zA (pv 1) zD)))
  (zG (zO gU)))),?_⟩
 refine⟨_,rfl,p,C,dx,_,_,rfl,h1,cl,nE,iZ _ _,fW rfl (.inl (aX.of h2)) ⟨_,rfl,p,C,dx,_,_,rfl,h1,cl,nM,O7 _ _,_,_,rfl,rfl,_,rfl,?_⟩⟩
 have UG:p ≠ d:=cC h1 h2 (by intro z;cases z)
 refine oZ (fun c=>?_) (fun c=>?_)
 ·have c':=of_decide_eq_true c
  rw[cM]at c'
  have c2:¬ l.length < m:=by lia
  have r:=k [p,d] H ⟨dx,d,rfl,h1,by unfold added;rw[if_neg c2];exact h2⟩ ⟨fun b hb=>.inl hb,fun b o eb _=>eb⟩
  rw[decide_eq_false c2]at r
  exact r
 ·have c':¬ ((m:Int)<=(((l.map V.int).length:Nat):Int)):=fun z=>c (decide_eq_true z)
  rw[cM]at c'
  have c2:l.length < m:=by lia
  refine⟨_,rfl,p,C,dx,_,_,rfl,h1,cl,nE,iZ _ _,.inl ⟨rfl,_,aX.of h2⟩,_,rfl,d,_,_,rfl,rfl,h2,zV (by rw[cM];lia),?_⟩
  have r:=k [p,d] (upd H d (.lst (l.map V.int++[.int e]))) ⟨dx,d,rfl,by rw[zQ UG];exact h1,by unfold added;rw[if_pos c2,zC,jH];rfl⟩ ⟨fun b hb=>.inl hb,fun b o eb nb=>by
   rw[zQ (fun z:b=d=>nb (by rw[z];simp))]
   exact eb⟩
  rw[decide_eq_true c2]at r
  exact r
theorem HX:aN ["self"] ["self"] (aG rW):=⟨rfl,rfl,rfl,by decide +kernel,rfl,by decide +kernel,by decide +kernel⟩
theorem Hm{f:Addr}{fd:FuncData}(F:cZ K "waiting" "Letters.waiting" rW f fd)(cl:Dt K C)(nE:iy K C "events")(dH:mg "list" = none):aL P w K mg base aq 1 f fd ["self"] (zj (LL C)):=by
 refine F.ok HX (fun vs H Q E h=>?_) (fun cdv A outer s H vs Q E hr h=>?_)
 ·refine aK fun G_ g_=>?_
  obtain⟨p,fp,m,l,rfl,_⟩:=h
  refine g_ ?_;clear g_
  rfl
 refine aK fun G_ g_=>?_
 obtain⟨p,fp,m,l,rfl,⟨dx,d,rfl,h1,h2⟩,hl,hm,k⟩:=h
 refine g_ ?_;clear g_
 refine⟨_,(zG (zO (yA eO rfl dH PyProof.Rows.boot_list (zA (uL (pv 0) rfl) zD)))),?_⟩
 refine⟨_,rfl,p,C,dx,_,_,rfl,h1,cl,nE,iZ _ _,fW rfl (.inl (aX.of h2)) (fun q hq=>?_)⟩
 refine k q [p,d] _ ⟨dx,d,rfl,by rw[zQ (zM h1 hq)];exact h1,by rw[zQ (zM h2 hq)];exact h2⟩ ⟨fun b hb=>.inl hb,fun b o eb _=>zF hq _ b o eb⟩ hq (fun z=>?_) zC
 rcases dG.mp z with z | z
 ·exact zM h1 hq z.symm
 ·exact zM h2 hq (cJ.mp z).symm
theorem QT:aN ["self"] ["self"] (aG Bt):=⟨rfl,rfl,rfl,by decide +kernel,rfl,by decide +kernel,by decide +kernel⟩
theorem Qs{f:Addr}{fd:FuncData}(F:cZ K "taken" "Letters.taken" Bt f fd)(cl:Dt K C)(nE:iy K C "events")(aY:mg "len" = none):aL P w K mg base aq 1 f fd ["self"] (Jr (LL C)):=by
 refine F.ok QT (fun vs H Q E h=>?_) (fun cdv A outer s H vs Q E hr h=>?_)
 ·refine aK fun G_ g_=>?_
  obtain⟨p,fp,m,l,rfl,_⟩:=h
  refine g_ ?_;clear g_
  rfl
 refine aK fun G_ g_=>?_
 obtain⟨p,fp,m,l,rfl,⟨dx,d,rfl,h1,h2⟩,hl,hm,k⟩:=h
 refine g_ ?_;clear g_
 refine⟨_,(zE (yD (zL yG (zS zN rfl aY PySem.boot_len (zA (uL (pv 0) rfl) zD)) zB (zR _))
  (zG (zO fV))
  zT)
  (zG (zO (bz PySem.F.plainAttrs_list PySem.F.slot_list_pop PySem.F.type_list_pop Fd (uL (pv 0) rfl) (zA zB zD))))),?_⟩
 refine⟨_,rfl,p,C,dx,_,_,rfl,h1,cl,nE,iZ _ _,fW rfl (.inl (aX.of h2)) ⟨rfl,_,rfl,?_⟩⟩
 have UG:p ≠ d:=cC h1 h2 (by intro z;cases z)
 cases l with
 | nil=>exact vG rfl (k [p,d] H ⟨dx,d,rfl,h1,h2⟩ ⟨fun b hb=>.inl hb,fun b o eb _=>eb⟩)
 | cons e l=>
  refine uQ ?_ ?_
  ·rw[cM]
   refine decide_eq_false fun z=>?_
   injection z with z
   rw[gC]at z
   lia
  refine⟨_,rfl,p,C,dx,_,_,rfl,h1,cl,nE,iZ _ _,.inl ⟨rfl,_,aX.of h2⟩,d,_,0,0,.int e,rfl,rfl,h2,by decide,by decide,?_,rfl,?_⟩
  ·rw[cM,gC]
   unfold seqIndex?
   simp
  ·exact k [p,d] _ ⟨dx,d,rfl,by rw[zQ UG];exact h1,zC⟩ ⟨fun b hb=>.inl hb,fun b o eb nb=>by
    rw[zQ (fun z:b=d=>nb (by rw[z];simp))]
    exact eb⟩
end
end jA
namespace jA
open PySem L2 mR oU yd Ds
theorem Jd{C:Addr}{H:Hp}{p t:Addr}{fp:List Addr}{m:Nat}{l:List Int}{xs:List V}(h:LL C H p fp m l)(ht:H t=some (.tup xs)):t ∉ fp:=by
 obtain⟨dx,d,rfl,h1,h2⟩:=h
 intro z
 rcases dG.mp z with z | z
 ·rw[z,h1]at ht
  cases ht
 ·rw[cJ.mp z,h2]at ht
  cases ht
def wL(L:LA):Sp:=fun vs H Q _ => ∃(vd:V)(tb p:Addr)(d:Dd)(bx sz l:List Int)(fp:List Addr)(m:Nat)(G:Hp),vs=[vd,.ref tb,.ref p]/\aM G H/\(∀ b∈fp,G b=none)/\uY G vd d/\G tb=some (.tup ((d.upd sz bx).map V.int))/\L H p fp m l/\d.ok bx.length/\bx.length<=6/\l.length<=m/\m<=12 ∧
 ∀(t:Addr)(fp':List Addr)(H':Hp),L H' p fp' m (d.X4 m l)->cP H H' fp fp'->H' t=some (.tup (d.rc sz m bx l).row)->t ∉ fp'->Q (.ref t) H'
section
variable{P:Program}{w:World}{K:PySem.W.Frag}{mg:Str->Option Value}{base:Heap}{C:Addr}
theorem uc:aN ["deed","boxes","letters","kind"] ["deed","boxes","letters"] (aG qF):=⟨rfl,rfl,rfl,by decide +kernel,rfl,by decide +kernel,by decide +kernel⟩
theorem FP{n:Nat}{f ga:Addr}{fd da:FuncData}(F:cZ K "recorded" "recorded" qF f fd)(cl:Dt K C)(mA:Meth K C "add" ga)(qCF:aL P w K mg base aq n ga da ["self","event"] (Wm (LL C)))(qCA:Binds K da ["self","event"] []) :
  aL P w K mg base aq (n+1) f fd ["deed","boxes","letters"] (wL (LL C)):=by
 refine F.ok uc (fun vs H Q E h=>?_) (fun cdv A outer s H vs Q E hr h=>?_)
 ·refine aK fun G_ g_=>?_
  obtain⟨vd,tb,p,d,bx,sz,l,fp,m,G,rfl,_⟩:=h
  refine g_ ?_;clear g_
  rfl
 refine aK fun G_ g_=>?_
 obtain⟨vd,tb,p,d,bx,sz,l,fp,m,G,rfl,sg,ng,hd,hb,hL,hok,h6,hl,hm,k⟩:=h
 refine g_ ?_;clear g_
 refine⟨_,(zE (zK (i:=3) uc.nd rfl (Or.inl rfl) (yB zH (pv 0) zB (fun _ _=>rfl)))
  (zE (yD (zL yG (pv 3) zP (zR _))
  (zG (zO (zW (zA zP (zA (yB zH (pv 0) zB (fun _ _=>rfl)) zD)))))
  zT)
  (zE (yD (zL yG (pv 3) zP (zR _))
  (zG (zO (zW (zA (Et (c7 (V2 (pv 2) cl mA qCF hr qCA .nil yE (zA (yB zH (pv 0) zB (fun _ _=>rfl)) zD))) zP zP) (zA (yB zH (pv 0) zB (fun _ _=>rfl)) zD)))))
  zT)
  (zG (zO (zW (zA zP (zA (yB zH (pv 0) zB (fun _ _=>rfl)) (zA (yB zH (pv 1) (yB zH (pv 0) zB (fun _ _=>rfl)) (fun _ _=>rfl)) zD))))))))),?_⟩
 have nG:∀ b o,G b=some o->b ∉ fp:=fun b o e z=>by
  rw[ng b z]at e
  cases e
 have fin:∀ t:Addr,H t=none->∀ row:List V,row=(d.rc sz m bx l).row->d.X4 m l=l->Q (.ref t) (upd H t (.tup row)):=fun t ht row e1 e2=>by
  have s1:=zF ht (.tup row)
  refine k t fp _ (by rw[e2];exact (jB C).keep hL fun b _ o e=>s1 b o e) ⟨fun b hb=>.inl hb,fun b o e _=>s1 b o e⟩ (by rw[zC,e1]) (fun z=>(jB C).there hL t z ht)
 have two:(∃(a:Addr)(kd:Str)(b n:Int),vd = .ref a/\G a=some (.tup [.str kd,.int b,.int n])/\(kd = "set" ∨ kd = "add")/\d.box=some b/\d.rc sz m bx l = .put b (at0 (d.upd sz bx) b)/\d.X4 m l=l) ∨
   (∃(a:Addr)(wd:Str),vd = .ref a/\G a=some (.tup [.str "say",.str wd])/\d = .say wd) ∨ (∃(a:Addr)(ev:Int),vd = .ref a/\G a=some (.tup [.str "send",.int ev])/\d = .send ev):=by
  cases hd with
  | say e=>exact .inr (.inl ⟨_,_,rfl,e,rfl⟩)
  | send e=>exact .inr (.inr ⟨_,_,rfl,e,rfl⟩)
  | set e=>exact .inl ⟨_,_,_,_,rfl,e,.inl rfl,rfl,rfl,rfl⟩
  | add e=>exact .inl ⟨_,_,_,_,rfl,e,.inr rfl,rfl,rfl,rfl⟩
 rcases two with ⟨a,kd,b,n',rfl,e,hk,hbx,Dq,qE2⟩ | ⟨a,wd,rfl,e,rfl⟩ | ⟨a,ev,rfl,e,rfl⟩
 ·have e':=sg _ _ e
  have hb':=sg _ _ hb
  obtain⟨b0,b1⟩:=hok b hbx
  have ul:=d.Jo sz bx
  refine⟨_,rfl,aD (aH.of e') rfl ?_⟩
  refine⟨_,rfl,rfl,_,rfl,yN (by rcases hk with rfl | rfl <;> decide +kernel) ?_⟩
  refine⟨_,rfl,rfl,_,rfl,yN (by rcases hk with rfl | rfl <;> decide +kernel) ?_⟩
  refine⟨_,rfl,aD (aH.of e') rfl ⟨_,rfl,_,rfl,aD (aH.of e') rfl (aD (aH.of hb') (oH b0 (by lia)) ⟨zI (by show 3<=1000;decide),fun t ht=>?_⟩)⟩⟩
  exact fin t ht _ (by rw[Dq];rfl) qE2
 ·have e':=sg _ _ e
  refine⟨_,rfl,aD (aH.of e') rfl ?_⟩
  refine⟨_,rfl,rfl,_,rfl,yO ?_⟩
  exact⟨_,rfl,aD (aH.of e') rfl ⟨zI (by show 2<=1000;decide),fun t ht=>fin t ht _ rfl rfl⟩⟩
 ·have e':=sg _ _ e
  refine aK fun G_ g_=>?_
  obtain⟨dx,fs,ho,n1,n2,n3⟩:=(jB C).obj hL
  refine g_ ?_;clear g_
  refine⟨_,rfl,aD (aH.of e') rfl ?_⟩
  refine⟨_,rfl,rfl,_,rfl,yN (by decide +kernel) ?_⟩
  refine⟨_,rfl,rfl,_,rfl,yO ?_⟩
  refine⟨_,rfl,p,dx,fs,rfl,ho,n1,_,rfl,aD (aH.of e') rfl ⟨p,fp,m,l,ev,rfl,hL,hl,hm,fun fp' H1 hL1 st=>⟨_,rfl,?_⟩⟩⟩
  have e1:=st.rest _ _ e' (nG _ _ e)
  have fin2:∀ t:Addr,H1 t=none->∀ row:List V,row=((Dd.send ev).rc sz m bx l).row->Q (.ref t) (upd H1 t (.tup row)):=fun t ht row er=>by
   have s1:=zF ht (.tup row)
   refine k t fp' _ ((jB C).keep hL1 fun b _ o e=>s1 b o e) ⟨st.own,fun b o e nb=>s1 b o (st.rest b o e nb)⟩ (by rw[zC,er]) (fun z=>(jB C).there hL1 t z ht)
  refine oZ (fun c=>?_) (fun c=>?_)
  ·refine⟨_,rfl,aD (aH.of e1) rfl ⟨zI (by show 2<=1000;decide),fun t ht=>fin2 t ht _ ?_⟩⟩
   show _=(if l.length < m then Rc.send ev else Rc.lost ev).row
   rw[if_pos (of_decide_eq_true c)]
   rfl
  ·refine⟨_,rfl,aD (aH.of e1) rfl ⟨zI (by show 2<=1000;decide),fun t ht=>fin2 t ht _ ?_⟩⟩
   show _=(if l.length < m then Rc.send ev else Rc.lost ev).row
   rw[if_neg fun z=>c (decide_eq_true z)]
   rfl
theorem rN:aN ["deeds","boxes","sizes","letters","held","record","deed"] ["deeds","boxes","sizes","letters"] (aG KC):=⟨rfl,rfl,rfl,by decide +kernel,rfl,by decide +kernel,by decide +kernel⟩
theorem VR{n:Nat}{f gc gr:Addr}{fd dc dr:FuncData}(F:cZ K "done" "done" KC f fd)(PJ:aL P w K mg base aq n gc dc ["deed","boxes","sizes"] zy)(Ol:Binds K dc ["deed","boxes","sizes"] [])(Nt:KI K gc)(N8:mg "changed" = some (.ref gc))
  (Jj:aL P w K mg base aq n gr dr ["deed","boxes","letters"] (wL (LL C))) (JW:Binds K dr ["deed","boxes","letters"] []) (J6:KI K gr) (Ir:mg "recorded" = some (.ref gr)) :
  aL P w K mg base aq (n+1) f fd ["deeds","boxes","sizes","letters"] (QK (LL C)):=by
 refine F.ok rN (fun vs H Q E h=>?_) (fun cdv A outer s H vs Q E hr h=>?_)
 ·refine aK fun G_ g_=>?_
  obtain⟨td,tb,ts,p,ds,bx,sz,l,dv,fp,m,G,rfl,_⟩:=h
  refine g_ ?_;clear g_
  rfl
 refine aK fun G_ g_=>?_
 obtain⟨td,tb,ts,p,ds,bx,sz,l,dv,fp,m,G,rfl,sg,ng,htd,hds,htb,hts,hL,hok,h8,hbs,h6,hpos,hl,hm,q⟩:=h
 refine g_ ?_;clear g_
 refine⟨_,(zE (zK (i:=4) rN.nd rfl (Or.inl rfl) (pv 1))
  (zE (zK (i:=5) rN.nd rfl (Or.inl rfl) (yK zD))
  (zZ (bN PassesOwn.never rfl (nJ (pv 0)) (yJ (i:=6) rN.nd rfl (Or.inl rfl))
  (zE (zK (i:=4) rN.nd rfl (Or.inl rfl) (zJ PJ hr rfl N8 Nt Ol .nil yE (zA (pv 6) (zA (pv 4) (zA (pv 2) zD)))))
  (zG (yI (bz PySem.F.plainAttrs_list PySem.F.slot_list_append PySem.F.type_list_append yH (pv 5) (zA (zJ Jj hr rfl Ir J6 JW .nil yE (zA (pv 6) (zA (pv 4) (zA (pv 3) zD)))) zD))))))
  (zG (zO (zW (zA (pv 4) (zA (pv 5) zD)))))))),?_⟩
 have nG:∀ b o,G b=some o->b ∉ fp:=fun b o e z=>by
  rw[ng b z]at e
  cases e
 refine⟨_,rfl,Nat.zero_le _,fun pr hpr=>?_⟩
 have s0:=zF hpr (.lst [])
 have Kc:pr ∉ fp:=fun z=>(jB C).there hL pr z hpr
 have nds:=hds.length
 refine⟨fun σ' Hi => ∃(tX:Addr)(cg:List Addr)(rv:List V)(o6:Option V),σ'=[some (.ref td),some (.ref tb),some (.ref ts),some (.ref p),some (.ref tX),some (.ref pr),o6]/\LL C Hi p cg m (oW m ds l)/\cP H Hi fp cg ∧
   Hi tX=some (.tup ((oX sz ds bx).map V.int))/\tX ∉ cg/\Hi pr=some (.lst rv)/\pr ∉ cg/\jd (xf cg Hi) rv (kZ sz m ds bx l),?_,?_⟩
 ·refine⟨_,rfl,td,rfl,⟨_,aH.of (s0 _ _ (sg _ _ htd))⟩,?_⟩
  refine Ky (K:=K) (a:=td) (xs:=dv) (fun i σ' Hi => ∃(tX:Addr)(cg:List Addr)(rv:List V)(o6:Option V),σ'=[some (.ref td),some (.ref tb),some (.ref ts),some (.ref p),some (.ref tX),some (.ref pr),o6]/\LL C Hi p cg m (oW m (ds.take i) l)/\cP H Hi fp cg ∧
   Hi tX=some (.tup ((oX sz (ds.take i) bx).map V.int))/\tX ∉ cg/\Hi pr=some (.lst rv)/\pr ∉ cg/\jd (xf cg Hi) rv (kZ sz m (ds.take i) bx l))
   ⟨tb,fp,[],none,rfl,(jB C).keep hL fun b _ o e=>s0 b o e,⟨fun b hb=>.inl hb,fun b o e _=>s0 b o e⟩,s0 _ _ (sg _ _ htb),nG _ _ htb,zC,Kc,.nil⟩ ?_ ?_ ?_
  ·rintro i σ' Hi _ aP
   refine aK fun G_ g_=>?_
   obtain⟨tX,cg,rv,o6,rfl,_,st,_⟩:=aP
   refine g_ ?_;clear g_
   exact aH.of (st.rest _ _ (sg _ _ htd) (nG _ _ htd))
  ·rintro i x σ' Hi hx aP
   refine aK fun G_ g_=>?_
   obtain⟨tX,cg,rv,o6,rfl,hLi,st,hbi,nbi,vH,Mu,Dq⟩:=aP
   obtain⟨d,hd,hdi⟩:=hds.get hx
   refine g_ ?_;clear g_
   have hdm:d∈ds:=List.mem_of_getElem? hd
   have hil:i < ds.length:=(yZ.mp hd).1
   have gi:∀ b o,G b=some o->Hi b=some o/\b ∉ cg:=fun b o e=>by
    refine⟨st.rest b o (sg b o e) (nG b o e),fun z=>?_⟩
    rcases st.own b z with y | y
    ·exact nG b o e y
    ·rw[sg b o e]at y
     cases y
   have lb:=sI sz (ds.take i) bx
   have ll:=sH (m:=m) (ds.take i) l hl
   refine⟨_,rfl,_,rfl,_,rfl,x,tX,ts,d,_,sz,rfl,hdi.mono (fun b xs e=>(gi b _ e).1),hbi,(gi _ _ hts).1,(by rw[lb];exact hok d hdm),(by rw[lb];exact hbs),(by rw[lb];exact h6),hpos,fun t H1 s1 ht=>?_⟩
   have hL1:=(jB C).keep hLi fun b _ o e=>s1 b o e
   have nt:=Jd hL1 ht
   have hr1:=s1 _ _ vH
   refine⟨_,rfl,.inl ⟨rfl,_,aX.of hr1⟩,_,rfl,_,rfl,_,rfl,x,t,p,d,oX sz (ds.take i) bx,sz,oW m (ds.take i) l,cg,m,xf cg H1,rfl,fun b o e=>(qT e).1,fun b hb=>Ld hb,?_,tK ht nt,hL1,(by rw[lb];exact hok d hdm),(by rw[lb];exact h6),ll,hm,fun t2 xX H2 hL2 st2 uy nt2=>?_⟩
   ·exact hdi.mono fun b xs e=>tK (s1 _ _ (gi b _ e).1) (gi b _ e).2
   have hr2:=st2.rest _ _ hr1 Mu
   have Uj:∀ b o,H1 b=some o->b ∉ cg->H2 b=some o/\b ∉ xX:=fun b o e nb=>⟨st2.rest b o e nb,fun z=>by
    rcases st2.own b z with y | y
    ·exact nb y
    ·rw[e]at y
     cases y⟩
   have nr2:=(Uj _ _ hr1 Mu).2
   have rl:=Dq.length
   rw[pL,dN]at rl
   refine⟨pr,_,_,rfl,rfl,hr2,zV (by lia),?_⟩
   have pW:ds.take (i+1)=ds.take i++[d]:=by
    rw[gB,hd]
    rfl
   refine⟨t,xX,rv++[.ref t2],_,rfl,?_,⟨fun b hb=>?_,fun b o e nb=>?_⟩,?_,(Uj _ _ ht nt).2,zC,nr2,?_⟩
   ·rw[pW,uH]
    refine (jB C).keep hL2 fun b hb o e=>?_
    rw[zQ (fun z:b=pr=>nr2 (by rw[<-z];exact hb))]
    exact e
   ·by_cases z:b∈fp
    ·exact .inl z
    ·rcases st2.own b hb with y | y
     ·exact st.own b y
     ·right
      cases w':H b with
      | none=>rfl
      | some o=>
       have:=s1 _ _ (st.rest b o w' z)
       rw[y]at this
       cases this
   ·have bi:b ∉ cg:=fun z=>by
     rcases st.own b z with y | y
     ·exact nb y
     ·rw[e]at y
      cases y
    rw[zQ (zM e hpr)]
    exact st2.rest b o (s1 _ _ (st.rest b o e nb)) bi
   ·rw[zQ (cC ht hr1 (by intro z;cases z)),pW,uI]
    exact (Uj _ _ ht nt).1
   ·rw[pW,uG]
    refine (Dq.mono fun b xs e=>?_).snoc (tK ?_ nt2)
    ·refine aK fun G_ g_=>?_
     obtain⟨e1,e2⟩:=qT e
     obtain⟨e3,e4⟩:=Uj _ _ (s1 _ _ e1) e2
     refine g_ ?_;clear g_
     refine tK ?_ e4
     rw[zQ (cC e1 vH (by intro z;cases z))]
     exact e3
    ·rw[zQ (cC uy hr2 (by intro z;cases z))]
     exact uy
  ·rintro σ' Hi aP
   refine aK fun G_ g_=>?_
   obtain⟨tX,cg,rv,o6,h1,h2,h3,h4,h5,h6',h7,h8'⟩:=aP
   refine g_ ?_;clear g_
   rw[nds,List.take_length]at h2 h4 h8'
   exact⟨tX,cg,rv,o6,h1,h2,h3,h4,h5,h6',h7,h8'⟩
 rintro σ' Hi aP
 refine aK fun G_ g_=>?_
 obtain⟨tX,cg,rv,o6,rfl,hLi,st,hbi,nbi,vH,Mu,Dq⟩:=aP
 refine g_ ?_;clear g_
 refine⟨_,rfl,_,rfl,zI (by show 2<=1000;decide),fun t ht=>?_⟩
 have s1:=zF ht (.tup [.ref tX,.ref pr])
 exact q t tX pr rv cg _ ((jB C).keep hLi fun b _ o e=>s1 b o e) ⟨st.own,fun b o e nb=>s1 b o (st.rest b o e nb)⟩ zC (s1 _ _ hbi) nbi (s1 _ _ vH) hpr (Dq.mono fun b xs e=>s1 _ _ (qT e).1)
end
end jA
namespace Ru
open PySem L2 mR oU tZ Ds yd jA
open mO (Al)
inductive En where
 | rc (r:Rc)
 | inn (k:Nat)
 | out (k:Nat)
 | door (k:Nat)
 | thr (k:Nat)
 | take (e:Int)
def En.row:En->List V
 | .rc r=>r.row
 | .inn k=>[.str "in",.int (k:Int)]
 | .out k=>[.str "out",.int (k:Int)]
 | .door k=>[.str "door",.int (k:Int)]
 | .thr k=>[.str "through",.int (k:Int)]
 | .take e=>[.str "take",.int e]
def bw(H:Hp)(v:V)(e:En):Prop:=∃ a:Addr,v = .ref a/\H a=some (.tup e.row)
theorem bw.mono{H H':Hp}{v:V}{e:En}(x:bw H v e)(k:aF H H'):bw H' v e:=by
 obtain⟨a,h1,h2⟩:=x
 exact⟨a,h1,k _ _ h2⟩
def qj(H:Hp)(v:V)(ds:List Dd):Prop:=∃(a:Addr)(dv:List V),v = .ref a/\H a=some (.tup dv)/\fc H dv ds
theorem qj.mono{H H':Hp}{v:V}{ds:List Dd}(x:qj H v ds)(k:aF H H'):qj H' v ds:=by
 obtain⟨a,dv,h1,h2,h3⟩:=x
 exact⟨a,dv,h1,k _ _ h2,h3.mono k⟩
abbrev Sd:=En × List Dd
def tO(H:Hp)(v:V)(s:Sd):Prop:=∃(a am:Addr)(dv:V),v = .ref a/\H a=some (.tup [.ref am,dv])/\H am=some (.tup s.1.row)/\qj H dv s.2
theorem tO.mono{H H':Hp}{v:V}{s:Sd}(x:tO H v s)(k:aF H H'):tO H' v s:=by
 obtain⟨a,am,dv,h1,h2,h3,h4⟩:=x
 exact⟨a,am,dv,h1,k _ _ h2,k _ _ h3,h4.mono k⟩
def sstep(sz:List Int)(m:Nat)(s:List Int × List Int × List En)(x:Sd):List Int × List Int × List En:=(oX sz x.2 s.1,oW m x.2 s.2.1,s.2.2++(x.1 :: (kZ sz m x.2 s.1 s.2.1).map En.rc))
def bB(sz:List Int)(m:Nat)(ss:List Sd)(bx l:List Int):List Int × List Int × List En:=ss.foldl (sstep sz m) (bx,l,[])
theorem mV(sz:List Int)(m:Nat)(ss:List Sd)(x:Sd)(bx l:List Int):bB sz m (ss++[x]) bx l=sstep sz m (bB sz m ss bx l) x:=by
 unfold bB
 rw[List.foldl_append]
 rfl
theorem uR(sz:List Int)(m:Nat):∀(ss:List Sd)(s:List Int × List Int × List En),(ss.foldl (sstep sz m) s).1.length=s.1.length/\(s.2.1.length<=m->(ss.foldl (sstep sz m) s).2.1.length<=m)
 | [],s=>⟨rfl,fun h=>h⟩
 | x :: ss,s=>by
  have ih:=uR sz m ss (sstep sz m s x)
  rw[List.foldl_cons]
  refine⟨by rw[ih.1];exact sI sz x.2 s.1,fun h=>ih.2 (sH x.2 s.2.1 h)⟩
theorem lG(sz:List Int)(m:Nat)(ss:List Sd)(bx l:List Int):(bB sz m ss bx l).1.length=bx.length:=(uR sz m ss _).1
theorem vO{sz:List Int}{m:Nat}{ss:List Sd}{bx l:List Int}(h:l.length<=m):(bB sz m ss bx l).2.1.length<=m:=(uR sz m ss (bx,l,[])).2 h
theorem Kz(sz:List Int)(m:Nat):∀(ss:List Sd)(s:List Int × List Int × List En),(∀ x∈ss,x.2.length<=8)->(ss.foldl (sstep sz m) s).2.2.length<=s.2.2.length+9 * ss.length
 | [],s,_=>by simp
 | x :: ss,s,h=>by
  have ih:=Kz sz m ss (sstep sz m s x) fun y hy=>h y (List.mem_cons_of_mem _ hy)
  have hx:=h x (List.mem_cons_self ..)
  have e:(sstep sz m s x).2.2.length=s.2.2.length+(1+x.2.length):=by
   show (s.2.2++(x.1 :: (kZ sz m x.2 s.1 s.2.1).map En.rc)).length=_
   rw[dJ,gC,cM,pL]
   lia
  rw[List.foldl_cons,gC]
  lia
theorem wK{sz:List Int}{m:Nat}{ss:List Sd}{bx l:List Int}(h:∀ x∈ss,x.2.length<=8):(bB sz m ss bx l).2.2.length<=9 * ss.length:=by
 have:=Kz sz m ss (bx,l,[]) h
 have e:(bx,l,([]:List En)).2.2.length=0:=rfl
 rw[e,Nat.zero_add]at this
 exact this
theorem Xv{H:Hp}{rv:List V}{rs:List Rc}(x:jd H rv rs):Al (bw H) rv (rs.map En.rc):=by
 induction x with
 | nil=>exact .nil
 | cons h _ ih=>exact .cons ⟨_,rfl,h⟩ ih
theorem Al.app{α:Type}{R:V->α->Prop}{vs ws:List V}{rs ss:List α}(x:Al R vs rs)(y:Al R ws ss):Al R (vs++ws) (rs++ss):=by
 induction x with
 | nil=>exact y
 | cons h _ ih=>exact .cons h ih
theorem Al.cast{α:Type}{R:V->α->Prop}{vs ws:List V}{rs:List α}(e:vs=ws)(x:Al R ws rs):Al R vs rs:=by
 rw[e]
 exact x
theorem cP.trans{H H1 H2:Hp}{fp fp1 xX:List Addr}(a:cP H H1 fp fp1)(b:cP H1 H2 fp1 xX):cP H H2 fp xX where
 own:=fun c hc=>by
  by_cases z:c∈fp
  ·exact .inl z
  ·rcases b.own c hc with y | y
   ·exact a.own c y
   ·right
    cases w':H c with
    | none=>rfl
    | some o=>
     have:=a.rest c o w' z
     rw[y]at this
     cases this
 rest:=fun c o e nb=>b.rest c o (a.rest c o e nb) fun z=>by
  rcases a.own c z with y | y
  ·exact nb y
  ·rw[e]at y
   cases y
theorem cP.same{H H':Hp}(fp:List Addr)(s:aM H H'):cP H H' fp fp:=⟨fun _ h=>.inl h,fun b o e _=>s b o e⟩
theorem cP.apart{H H':Hp}{fp fp':List Addr}(a:cP H H' fp fp'){b:Addr}{o:HO}(e:H b=some o)(n:b ∉ fp):H' b=some o/\b ∉ fp':=⟨a.rest b o e n,fun z=>by
 rcases a.own b z with y | y
 ·exact n y
 ·rw[e]at y
  cases y⟩
theorem cP.keep{C:Addr}{H H':Hp}{p:Addr}{fp fp':List Addr}{m:Nat}{l:List Int}(a:cP H H' fp fp')(h:LL C H p fp m l):aF H H':=fun b xs e=>a.rest b _ e (Jd h e)
theorem cP.upd{H H':Hp}{fp fp':List Addr}(a:cP H H' fp fp'){b:Addr}(n:H b=none)(o:HO):cP H (upd H' b o) fp fp':=⟨a.own,fun c u e nc=>by
 rw[zQ (zM e n)]
 exact a.rest c u e nc⟩
theorem LL.same{C:Addr}{H H':Hp}{p:Addr}{fp:List Addr}{m:Nat}{l:List Int}(h:LL C H p fp m l)(s:aM H H'):LL C H' p fp m l:=(jB C).keep h fun b _ o e=>s b o e
theorem LL.upd{C:Addr}{H:Hp}{p b:Addr}{fp:List Addr}{m:Nat}{l:List Int}(h:LL C H p fp m l)(n:b ∉ fp)(o:HO):LL C (upd H b o) p fp m l:=(jB C).keep h fun c hc u e=>by
 rw[zQ (fun z:c=b=>n (by rw[<-z];exact hc))]
 exact e
theorem LL.new{C:Addr}{H:Hp}{p b:Addr}{fp:List Addr}{m:Nat}{l:List Int}(h:LL C H p fp m l)(n:H b=none):b ∉ fp:=fun z=>(jB C).there h b z n
def PL(H:Hp)(v:V)(z:Int):Prop:=∃(a:Addr)(n s:V),v = .ref a/\H a=some (.tup [n,.int z,s])
theorem PL.mono{H H':Hp}{v:V}{z:Int}(x:PL H v z)(k:aF H H'):PL H' v z:=by
 obtain⟨a,n,s,h1,h2⟩:=x
 exact⟨a,n,s,h1,k _ _ h2⟩
def Jt:Sp:=fun vs H Q _ => ∃(pc pb:Addr)(x0 x1 x2 x4 x5 x6:V)(bv:List V)(sz:List Int),vs=[.ref pc]/\H pc=some (.tup [x0,x1,x2,.ref pb,x4,x5,x6])/\H pb=some (.tup bv)/\Al (PL H) bv sz/\sz.length<=100/\∀(t:Addr)(H':Hp),aM H H'->H' t=some (.tup (sz.map V.int))->Q (.ref t) H'
def Xb(H:Hp)(rs:List Rm)(di dO:Nat->List Dd):Prop:=∀(k:Nat)(r:Rm),rs[k]? = some r->qj H r.ins (di k)/\qj H r.outs (dO k)
theorem Xb.mono{H H':Hp}{rs:List Rm}{di dO:Nat->List Dd}(x:Xb H rs di dO)(k:aF H H'):Xb H' rs di dO:=fun j r h=>⟨(x j r h).1.mono k,(x j r h).2.mono k⟩
def q8(f:Nat->En)(ins:Bool):Sp:=fun vs H Q _ => ∃(t pe:Addr)(rs:List Rm)(di dO:Nat->List Dd)(es:List Nat),vs=[.ref t,.ref pe]/\cD H t rs/\Xb H rs di dO/\H pe=some (.lst (aB es))/\(∀ k∈es,k < rs.length)/\es.length<=100/\∀(p:Addr)(sv:List V)(H':Hp),aM H H'->H p=none->H' p=some (.lst sv)->Al (tO H') sv (es.map fun k=>(f k,if ins=true then di k else dO k))->Q (.ref p) H'
def outs(es:List En):List Nat:=es.filterMap fun e=>match e with
 | .out k=>some k
 | _=>none
def QB:Sp:=fun vs H Q _ => ∃(pr:Addr)(rv:List V)(es:List En),vs=[.ref pr]/\H pr=some (.lst rv)/\Al (bw H) rv es/\es.length<=1000/\∀(p:Addr)(H':Hp),aM H H'->H p=none->H' p=some (.lst (aB (outs es)))->Q (.ref p) H'
def zm(C:Addr):Sp:=fun vs H Q _ => ∃(ps tb ts p:Addr)(sv:List V)(ss:List Sd)(bx sz l:List Int)(fp:List Addr)(m:Nat),vs=[.ref ps,.ref tb,.ref ts,.ref p]/\H ps=some (.lst sv)/\ps ∉ fp/\Al (tO H) sv ss/\H tb=some (.tup (bx.map V.int))/\H ts=some (.tup (sz.map V.int))/\LL C H p fp m l/\(∀ s∈ss,(∀ d∈s.2,d.ok bx.length)/\s.2.length<=8)/\ss.length<=110/\bx.length=sz.length/\bx.length<=6/\(∀ z∈sz,0 < z)/\l.length<=m/\m<=12 ∧
 ∀(t tb' pr:Addr)(rv:List V)(fp':List Addr)(H':Hp),LL C H' p fp' m (bB sz m ss bx l).2.1->cP H H' fp fp'->H' t=some (.tup [.ref tb',.ref pr])->H' tb'=some (.tup ((bB sz m ss bx l).1.map V.int))->H' pr=some (.lst rv)->H pr=none->pr ∉ fp'->Al (bw H') rv (bB sz m ss bx l).2.2->Q (.ref t) H'
section
variable{P:Program}{w:World}{K:PySem.W.Frag}{mg:Str->Option Value}{base:Heap}{C:Addr}
theorem Eg:aN ["chart"] ["chart"] (aG jR):=⟨rfl,rfl,rfl,by decide +kernel,rfl,by decide +kernel,by decide +kernel⟩
theorem FN{f:Addr}{fd:FuncData}(F:cZ K "sizes_of" "sizes_of" jR f fd)(aa:mg "tuple" = none):aL P w K mg base aq 1 f fd ["chart"] Jt:=by
 refine F.ok Eg (fun vs H Q E h=>?_) (fun cdv A outer s H vs Q E hr h=>?_)
 ·refine aK fun G_ g_=>?_
  obtain⟨pc,pb,x0,x1,x2,x4,x5,x6,bv,sz,rfl,_⟩:=h
  refine g_ ?_;clear g_
  rfl
 refine aK fun G_ g_=>?_
 obtain⟨pc,pb,x0,x1,x2,x4,x5,x6,bv,sz,rfl,rF,hpb,hA,hz,q⟩:=h
 refine g_ ?_;clear g_
 refine⟨_,(zG (zO (yA zX rfl aa PyProof.Rows.boot_tuple (zA (yT (bY:=[]) rfl (show bQ (aG jR) ["chart"] _ _ _ from ⟨rfl,rfl,by decide +kernel,by decide +kernel,by decide +kernel,by decide +kernel,by decide +kernel⟩) (nJ (yB zH (pv 0) zB (fun _ _=>rfl))) (fun _ _ _ _ _ _=>fG) (fun _ _ _ _ _ _=>yB (r:=fj K) zH (pv 0) zB (fun _ _=>rfl))) zD)))),?_⟩
 have lb:=hA.length
 refine⟨_,rfl,aD (aH.of rF) rfl ⟨pb,rfl,⟨_,aH.of hpb⟩,?_⟩⟩
 refine mD (K:=K) (a:=pb) (xs:=bv) (fun i acc H'=>H'=H/\acc=(sz.take i).map V.int) ⟨rfl,rfl⟩ (fun i acc H' z=>by rw[z.1];exact aH.of hpb) ?_ ?_
 ·rintro i x acc H' hx ⟨rfl,rfl⟩
  have hi:i < sz.length:=by
   have:=(yZ.mp hx).1
   lia
  have hk:=cj hi
  refine aK fun G_ g_=>?_
  obtain⟨v,hv,a,n,s,rfl,h1⟩:=hA.get hk
  refine g_ ?_;clear g_
  rw[hv]at hx
  obtain rfl:=oN hx
  refine⟨_,rfl,aD (aH.of h1) rfl ⟨by rw[cM,dN,sizeLine_eq];lia,rfl,?_⟩⟩
  rw[gB,hk,jH]
  rfl
 ·rintro acc H' ⟨rfl,rfl⟩ pl hpl
  rw[tW (by lia)]at *
  refine⟨pl,_,rfl,.inl ⟨aX.of zC,fun p hp=>q p _ ((zF hpl _).trans (zF hp _)) zC⟩⟩
theorem yg:aN ["record"] ["record"] (aG gJ):=⟨rfl,rfl,rfl,by decide +kernel,rfl,by decide +kernel,by decide +kernel⟩
theorem Em(e:En):∃(s:Str)(x:V)(r:List V),e.row = .str s :: x :: r/\(decide (V.str s=V.str ("out" : Str))=true->∃ k:Nat,e = .out k/\x = .int (k:Int))/\(decide (V.str s=V.str ("out" : Str))=false->∀ k,e ≠ .out k):=by
 cases e with
 | rc r=>cases r <;> exact⟨_,_,_,rfl,(fun z=>absurd z (by decide +kernel)),fun _ k z=>by cases z⟩
 | inn k=>exact⟨_,_,_,rfl,(fun z=>absurd z (by decide +kernel)),fun _ k z=>by cases z⟩
 | out k=>exact⟨_,_,_,rfl,fun _=>⟨k,rfl,rfl⟩,fun z=>absurd z (by decide +kernel)⟩
 | door k=>exact⟨_,_,_,rfl,(fun z=>absurd z (by decide +kernel)),fun _ k z=>by cases z⟩
 | thr k=>exact⟨_,_,_,rfl,(fun z=>absurd z (by decide +kernel)),fun _ k z=>by cases z⟩
 | take e=>exact⟨_,_,_,rfl,(fun z=>absurd z (by decide +kernel)),fun _ k z=>by cases z⟩
theorem qK(es:List En)(e:En):outs (es++[e])=outs es++(match e with
  | .out k=>[k]
  | _=>[]):=by
 unfold outs
 rw[List.filterMap_append]
 cases e <;> rfl
theorem yl{f:Addr}{fd:FuncData}(F:cZ K "rooms_left" "rooms_left" gJ f fd):aL P w K mg base aq 1 f fd ["record"] QB:=by
 refine F.ok yg (fun vs H Q E h=>?_) (fun cdv A outer s H vs Q E hr h=>?_)
 ·refine aK fun G_ g_=>?_
  obtain⟨pr,rv,es,rfl,_⟩:=h
  refine g_ ?_;clear g_
  rfl
 refine aK fun G_ g_=>?_
 obtain⟨pr,rv,es,rfl,hpr,hA,hz,q⟩:=h
 refine g_ ?_;clear g_
 refine⟨_,(zG (zO (yT (bY:=[]) rfl (show bQ (aG gJ) ["record"] _ _ _ from ⟨rfl,rfl,by decide +kernel,by decide +kernel,by decide +kernel,by decide +kernel,by decide +kernel⟩) (yM (pv 0)) (fun _ _ _ _ _ _=>bU (zL (r:=rEq) yG (yB (r:=fj K) zH (pv 0) zB (fun _ _=>rfl)) zP (zR _))) (fun _ _ _ _ _ _=>yB (r:=fj K) zH (pv 0) zB (fun _ _=>rfl))))),?_⟩
 have lr:=hA.length
 refine⟨_,rfl,pr,rfl,⟨_,aX.of hpr⟩,?_⟩
 refine yS (K:=K) (a:=pr) (xs:=rv) (fun i acc H'=>H'=H/\acc.length<=i/\acc=aB (outs (es.take i))) ⟨rfl,bu _,rfl⟩ (fun i acc H' z=>by rw[z.1];exact aX.of hpr) ?_ ?_
 ·rintro i x acc H' hx aP
  refine aK fun G_ g_=>?_
  obtain⟨rfl,la,rfl⟩:=aP
  have hi:i < es.length:=by
   have:=(yZ.mp hx).1
   lia
  have hk:=cj hi
  obtain⟨v,hv,a,rfl,h1⟩:=hA.get hk
  refine g_ ?_;clear g_
  rw[hv]at hx
  obtain rfl:=oN hx
  have pW:es.take (i+1)=es.take i++[es[i]]:=by
   rw[gB,hk]
   rfl
  refine aK fun G_ g_=>?_
  obtain⟨s',x',r',e1,e2,e3⟩:=Em es[i]
  refine g_ ?_;clear g_
  rw[e1]at h1
  refine⟨_,rfl,a,_,_,V.str s',rfl,rfl,aH.of h1,(yQ (j:=0) (v:=V.str s') rfl),(show Uo (V.str s') (V.str ("out" : Str))=true from rfl),_,rfl,cW (fun c=>?_) (fun c=>?_)⟩
  ·refine aK fun G_ g_=>?_
   obtain⟨k,ek,rfl⟩:=e2 c
   refine g_ ?_;clear g_
   refine⟨_,rfl,aD (aH.of h1) ((yQ (j:=1) rfl)) ⟨by rw[sizeLine_eq];lia,rfl,by rw[dJ,jj];lia,?_⟩⟩
   rw[pW,qK,ek]
   unfold aB
   rw[jH]
   rfl
  ·refine⟨rfl,by lia,?_⟩
   rw[pW,qK]
   have e3:=e3 c
   generalize es[i]=e at e3
   cases e with
   | out k=>exact absurd rfl (e3 k)
   | rc r=>rw[dM]
   | inn k=>rw[dM]
   | door k=>rw[dM]
   | thr k=>rw[dM]
   | take k=>rw[dM]
 ·rintro acc H' ⟨rfl,_,rfl⟩ pl hpl
  rw[tW (by lia)]
  exact q pl _ (zF hpl _) hpl zC
theorem Ef:aN ["rooms","entered"] ["rooms","entered"] (aG jQ):=⟨rfl,rfl,rfl,by decide +kernel,rfl,by decide +kernel,by decide +kernel⟩
theorem FJ{f:Addr}{fd:FuncData}(F:cZ K "steps_in" "steps_in" jQ f fd):aL P w K mg base aq 1 f fd ["rooms","entered"] (q8 En.inn true):=by
 refine F.ok Ef (fun vs H Q E h=>?_) (fun cdv A outer s H vs Q E hr h=>?_)
 ·refine aK fun G_ g_=>?_
  obtain⟨t,pe,rs,di,dO,es,rfl,_⟩:=h
  refine g_ ?_;clear g_
  rfl
 refine aK fun G_ g_=>?_
 obtain⟨t,pe,rs,di,dO,es,rfl,hR,hD,hpe,hlt,hz,q⟩:=h
 refine g_ ?_;clear g_
 refine⟨_,(zG (zO (yT (bY:=[(0,"rooms")]) rfl (show bQ (aG jQ) ["rooms","entered"] _ _ _ from ⟨rfl,rfl,by decide +kernel,by decide +kernel,by decide +kernel,by decide +kernel,by decide +kernel⟩) (yM (pv 1)) (fun _ _ _ _ _ _=>fG) (fun _ _ _ _ _ _=>(zW (zA (zW (zA zP (zA (pv 0) zD))) (zA (yB (r:=fj K) zH (yB (r:=fj K) zH (pv 1) (pv 0) (fun _ _=>rfl)) zB (fun _ _=>rfl)) zD))))))),?_⟩
 refine⟨_,rfl,pe,rfl,⟨_,aX.of hpe⟩,?_⟩
 refine yS (K:=K) (a:=pe) (xs:=aB es) (fun i acc H'=>aM H H'/\acc.length=i/\Al (tO H') acc ((es.take i).map fun k=>(En.inn k,di k))) ⟨aM.refl _,rfl,.nil⟩ (fun i acc H' z=>aX.of (z.1 _ _ hpe)) ?_ ?_
 ·rintro i x acc H' hx aP
  refine aK fun G_ g_=>?_
  obtain⟨s1,la,hA⟩:=aP
  obtain⟨hi,rfl⟩:=yR hx
  refine g_ ?_;clear g_
  have hk:=cj hi
  have hm:=hlt _ (fB hi)
  generalize es[i]=k at hk hm
  refine aK fun G_ g_=>?_
  obtain⟨vs,a,r,hv,_,hr',hat,ha⟩:=(hR.mono (aF.of s1)).at hm
  refine g_ ?_;clear g_
  have hd:=(hD k r hr').1
  refine⟨_,rfl,zI (by show 2<=1000;decide),fun p hp=>?_⟩
  have u2:=zF hp (.tup [V.str ("in" : Str),V.int (k:Int)])
  have h2p:upd H' p (.tup [V.str ("in" : Str),V.int (k:Int)]) p=some (.tup (En.inn k).row):=zC
  generalize upd H' p (.tup [V.str ("in" : Str),V.int (k:Int)])=H2 at u2 h2p ⊢
  refine⟨_,rfl,_,rfl,aD (aH.of (u2 _ _ hv)) hat (aD (aH.of (u2 _ _ ha)) rfl ⟨zI (by show 2<=1000;decide),fun p2 hp2=>⟨by rw[sizeLine_eq];lia,s1.trans (u2.trans (zF hp2 _)),by rw[dJ,jj,la],?_⟩⟩)⟩
  have u3:=zF hp2 (.tup [V.ref p,r.ins])
  rw[gB,hk,jH]
  exact (hA.mono fun _ _ z=>z.mono (aF.of (u2.trans u3))).snoc ⟨p2,p,r.ins,rfl,zC,u3 _ _ h2p,hd.mono (aF.of (s1.trans (u2.trans u3)))⟩
 ·rintro acc H' ⟨s1,la,hA⟩ pl hpl
  rw[zU]at hA
  rw[tW (bu _)]at hA
  exact q pl acc _ (s1.trans (zF hpl _)) (s1.free hpl) zC (hA.mono fun _ _ z=>z.mono (aF.of (zF hpl _)))
theorem Br:aN ["rooms","left"] ["rooms","left"] (aG iU):=⟨rfl,rfl,rfl,by decide +kernel,rfl,by decide +kernel,by decide +kernel⟩
theorem CK{f:Addr}{fd:FuncData}(F:cZ K "steps_out" "steps_out" iU f fd):aL P w K mg base aq 1 f fd ["rooms","left"] (q8 En.out false):=by
 refine F.ok Br (fun vs H Q E h=>?_) (fun cdv A outer s H vs Q E hr h=>?_)
 ·refine aK fun G_ g_=>?_
  obtain⟨t,pe,rs,di,dO,es,rfl,_⟩:=h
  refine g_ ?_;clear g_
  rfl
 refine aK fun G_ g_=>?_
 obtain⟨t,pe,rs,di,dO,es,rfl,hR,hD,hpe,hlt,hz,q⟩:=h
 refine g_ ?_;clear g_
 refine⟨_,(zG (zO (yT (bY:=[(0,"rooms")]) rfl (show bQ (aG iU) ["rooms","left"] _ _ _ from ⟨rfl,rfl,by decide +kernel,by decide +kernel,by decide +kernel,by decide +kernel,by decide +kernel⟩) (yM (pv 1)) (fun _ _ _ _ _ _=>fG) (fun _ _ _ _ _ _=>(zW (zA (zW (zA zP (zA (pv 0) zD))) (zA (yB (r:=fj K) zH (yB (r:=fj K) zH (pv 1) (pv 0) (fun _ _=>rfl)) zB (fun _ _=>rfl)) zD))))))),?_⟩
 refine⟨_,rfl,pe,rfl,⟨_,aX.of hpe⟩,?_⟩
 refine yS (K:=K) (a:=pe) (xs:=aB es) (fun i acc H'=>aM H H'/\acc.length=i/\Al (tO H') acc ((es.take i).map fun k=>(En.out k,dO k))) ⟨aM.refl _,rfl,.nil⟩ (fun i acc H' z=>aX.of (z.1 _ _ hpe)) ?_ ?_
 ·rintro i x acc H' hx aP
  refine aK fun G_ g_=>?_
  obtain⟨s1,la,hA⟩:=aP
  obtain⟨hi,rfl⟩:=yR hx
  refine g_ ?_;clear g_
  have hk:=cj hi
  have hm:=hlt _ (fB hi)
  generalize es[i]=k at hk hm
  refine aK fun G_ g_=>?_
  obtain⟨vs,a,r,hv,_,hr',hat,ha⟩:=(hR.mono (aF.of s1)).at hm
  refine g_ ?_;clear g_
  have hd:=(hD k r hr').2
  refine⟨_,rfl,zI (by show 2<=1000;decide),fun p hp=>?_⟩
  have u2:=zF hp (.tup [V.str ("out" : Str),V.int (k:Int)])
  have h2p:upd H' p (.tup [V.str ("out" : Str),V.int (k:Int)]) p=some (.tup (En.out k).row):=zC
  generalize upd H' p (.tup [V.str ("out" : Str),V.int (k:Int)])=H2 at u2 h2p ⊢
  refine⟨_,rfl,_,rfl,aD (aH.of (u2 _ _ hv)) hat (aD (aH.of (u2 _ _ ha)) rfl ⟨zI (by show 2<=1000;decide),fun p2 hp2=>⟨by rw[sizeLine_eq];lia,s1.trans (u2.trans (zF hp2 _)),by rw[dJ,jj,la],?_⟩⟩)⟩
  have u3:=zF hp2 (.tup [V.ref p,r.outs])
  rw[gB,hk,jH]
  exact (hA.mono fun _ _ z=>z.mono (aF.of (u2.trans u3))).snoc ⟨p2,p,r.outs,rfl,zC,u3 _ _ h2p,hd.mono (aF.of (s1.trans (u2.trans u3)))⟩
 ·rintro acc H' ⟨s1,la,hA⟩ pl hpl
  rw[zU]at hA
  rw[tW (bu _)]at hA
  exact q pl acc _ (s1.trans (zF hpl _)) (s1.free hpl) zC (hA.mono fun _ _ z=>z.mono (aF.of (zF hpl _)))
theorem fQ:aN ["steps","boxes","sizes","letters","held","record","mark","deeds","told"] ["steps","boxes","sizes","letters"] (aG qC):=⟨rfl,rfl,rfl,by decide +kernel,rfl,by decide +kernel,by decide +kernel⟩
theorem Ho{n:Nat}{f gd:Addr}{fd dd:FuncData}(F:cZ K "stepped" "stepped" qC f fd)(qAJ:aL P w K mg base aq n gd dd ["deeds","boxes","sizes","letters"] (QK (LL C)))(qAD:Binds K dd ["deeds","boxes","sizes","letters"] [])(Yl:KI K gd)(YZ:mg "done" = some (.ref gd)) :
  aL P w K mg base aq (n+1) f fd ["steps","boxes","sizes","letters"] (zm C):=by
 refine F.ok fQ (fun vs H Q E h=>?_) (fun cdv A outer s H vs Q E hr h=>?_)
 ·refine aK fun G_ g_=>?_
  obtain⟨ps,tb,ts,p,sv,ss,bx,sz,l,fp,m,rfl,_⟩:=h
  refine g_ ?_;clear g_
  rfl
 refine aK fun G_ g_=>?_
 obtain⟨ps,tb,ts,p,sv,ss,bx,sz,l,fp,m,rfl,hps,nps,hA,htb,hts,hL,hok,hss,hbs,h6,hpos,hl,hm,q⟩:=h
 refine g_ ?_;clear g_
 refine⟨_,(zE (zK (i:=4) fQ.nd rfl (Or.inl rfl) (pv 1))
  (zE (zK (i:=5) fQ.nd rfl (Or.inl rfl) (yK zD))
  (zZ (bN PassesOwn.never rfl (yM (pv 0)) (Qh rfl (sS (yJ (i:=6) fQ.nd rfl (Or.inl rfl)) (sS (yJ (i:=7) fQ.nd rfl (Or.inl rfl)) KY)))
  (zE (zK (i:=8) fQ.nd rfl (Or.inl rfl) (zJ qAJ hr rfl YZ Yl qAD .nil yE (zA (pv 7) (zA (pv 4) (zA (pv 2) (zA (pv 3) zD))))))
  (zE (zK (i:=4) fQ.nd rfl (Or.inl rfl) (yB zH (pv 8) zB (fun _ _=>rfl)))
  (zE (yI (bz PySem.F.plainAttrs_list PySem.F.slot_list_append PySem.F.type_list_append yH (pv 5) (zA (pv 6) zD)))
  (zG (yI (bz PySem.F.plainAttrs_list PySem.F.slot_list_extend PySem.F.type_list_extend jM (pv 5) (zA (yB zH (pv 8) zB (fun _ _=>rfl)) zD))))))))
  (zG (zO (zW (zA (pv 4) (zA (pv 5) zD)))))))),?_⟩
 have lsv:=hA.length
 refine⟨_,rfl,Nat.zero_le _,fun pr hpr=>?_⟩
 have u0:=zF hpr (.lst [])
 have Kc:pr ∉ fp:=LL.new hL hpr
 refine⟨fun σ' Hi => ∃(tX:Addr)(cg:List Addr)(rv:List V)(o6 o7 o8:Option V),σ'=[some (.ref ps),some (.ref tb),some (.ref ts),some (.ref p),some (.ref tX),some (.ref pr),o6,o7,o8]/\LL C Hi p cg m (bB sz m ss bx l).2.1/\cP H Hi fp cg/\Hi tX=some (.tup ((bB sz m ss bx l).1.map V.int))/\Hi pr=some (.lst rv)/\pr ∉ cg/\Al (bw Hi) rv (bB sz m ss bx l).2.2,?_,?_⟩
 ·refine⟨_,rfl,ps,rfl,⟨_,aX.of (u0 _ _ hps)⟩,?_⟩
  refine dC (K:=K) (a:=ps) (xs:=sv) (fun i σ' Hi => ∃(tX:Addr)(cg:List Addr)(rv:List V)(o6 o7 o8:Option V),σ'=[some (.ref ps),some (.ref tb),some (.ref ts),some (.ref p),some (.ref tX),some (.ref pr),o6,o7,o8]/\LL C Hi p cg m (bB sz m (ss.take i) bx l).2.1/\cP H Hi fp cg/\Hi tX=some (.tup ((bB sz m (ss.take i) bx l).1.map V.int))/\Hi pr=some (.lst rv)/\pr ∉ cg/\Al (bw Hi) rv (bB sz m (ss.take i) bx l).2.2)
   ⟨tb,fp,[],_,_,_,rfl,LL.same hL u0,cP.same fp u0,u0 _ _ htb,zC,Kc,.nil⟩ (fun i σ' Hi _ ⟨_,_,_,_,_,_,_,_,st,_⟩=>aX.of (st.rest _ _ hps nps)) ?_ ?_
  ·rintro i x σ' Hi hx aP
   refine aK fun G_ g_=>?_
   obtain⟨tX,cg,rv,o6,o7,o8,rfl,hLi,st,hbi,vH,Mu,Dq⟩:=aP
   have hi:i < ss.length:=by
    have:=(yZ.mp hx).1
    lia
   have hk:=cj hi
   have hmem:=fB hi
   have pW:ss.take (i+1)=ss.take i++[ss[i]]:=by
    rw[gB,hk]
    rfl
   obtain⟨v,hv,a,am,Sy,rfl,h1,h2,ad,dv,rfl,h3,h4⟩:=hA.get hk
   refine g_ ?_;clear g_
   rw[hv]at hx
   obtain rfl:=oN hx
   have kt:aF H Hi:=cP.keep st hL
   obtain⟨ok1,ok2⟩:=hok _ hmem
   have lb:=lG sz m (ss.take i) bx l
   have ll:=vO (sz:=sz) (ss:=ss.take i) (bx:=bx) hl
   have les:=wK (sz:=sz) (m:=m) (ss:=ss.take i) (bx:=bx) (l:=l) fun y hy=>(hok y (List.mem_of_mem_take hy)).2
   have X3:=Dq.length
   rw[dN]at les
   generalize ss[i]=sd at pW h2 h4 ok1 ok2
   have gk:aF Hi (xf cg Hi):=fun b xs e=>tK e (Jd hLi e)
   refine⟨a,_,rfl,aH.of (kt _ _ h1),rfl,_,_,rfl,_,_,rfl,rfl,?_⟩
   refine⟨_,rfl,_,rfl,_,rfl,_,rfl,ad,tX,ts,p,sd.2,_,sz,_,dv,cg,m,xf cg Hi,rfl,fun b o e=>(qT e).1,fun b hb=>Ld hb,gk _ _ (kt _ _ h3),h4.mono (kt.trans gk),gk _ _ hbi,gk _ _ (kt _ _ hts),hLi,(by rw[lb];exact ok1),ok2,(by rw[lb];exact hbs),(by rw[lb];exact h6),hpos,ll,hm,fun t tb2 PQ qH xX H2 hL2 st2 uy hb2 nb2 hr2 IK qBT=>?_⟩
   have XD:=(cP.apart st2 vH Mu).1
   have nr3:=(cP.apart st2 vH Mu).2
   have k2:=cP.keep st2 hLi
   have ne2:PQ ≠ pr:=fun z=>by
    rw[z,vH]at IK
    cases IK
   refine⟨_,rfl,aD (aH.of uy) rfl ?_⟩
   refine⟨_,rfl,.inl ⟨rfl,_,aX.of XD⟩,_,rfl,pr,rv,_,rfl,rfl,XD,(by rw[sizeLine_eq];lia),?_⟩
   have k3:=aF.lst XD (.lst (rv++[.ref am]))
   have h3r:upd H2 pr (.lst (rv++[.ref am])) pr=some (.lst (rv++[.ref am])):=zC
   have h3p:upd H2 pr (.lst (rv++[.ref am])) PQ=some (.lst qH):=by
    rw[zQ ne2]
    exact hr2
   have st3:cP H (upd H2 pr (.lst (rv++[.ref am]))) fp xX:=cP.upd (cP.trans st st2) hpr _
   have hL3:=LL.upd hL2 nr3 (.lst (rv++[.ref am]))
   generalize upd H2 pr (.lst (rv++[.ref am]))=H3 at k3 h3r h3p st3 hL3 ⊢
   have lr2:=qBT.length
   rw[pL]at lr2
   refine⟨_,rfl,.inl ⟨rfl,_,aX.of h3r⟩,_,rfl,aD (aH.of (k3 _ _ uy)) rfl ⟨pr,PQ,_,_,rfl,rfl,h3r,h3p,(by rw[dJ,jj,sizeLine_eq];lia),?_⟩⟩
   have k4:=aF.lst h3r (.lst (rv++[.ref am]++qH))
   have Fw:=k2.trans (k3.trans k4)
   refine⟨tb2,xX,_,_,_,_,rfl,?_,cP.upd st3 hpr _,?_,zC,nr3,?_⟩
   ·rw[pW,mV]
    exact LL.upd hL3 nr3 _
   ·rw[pW,mV]
    exact (k3.trans k4) _ _ hb2
   ·rw[pW,mV]
    show Al _ _ ((bB sz m (ss.take i) bx l).2.2++(sd.1 :: _))
    refine Al.cast (show rv++[V.ref am]++qH=rv++(V.ref am :: qH) by rw[List.append_assoc];rfl) ?_
    exact Al.app (Dq.mono fun _ _ z=>z.mono Fw) (.cons ⟨am,rfl,Fw _ _ (kt _ _ h2)⟩ (Xv (qBT.mono (k3.trans k4))))
  ·rintro σ' Hi aP
   refine aK fun G_ g_=>?_
   obtain⟨tX,cg,rv,o6,o7,o8,z1,z2,z3,z4,z5,z6,z7⟩:=aP
   refine g_ ?_;clear g_
   rw[lsv,List.take_length]at z2 z4 z7
   exact⟨tX,cg,rv,o6,o7,o8,z1,z2,z3,z4,z5,z6,z7⟩
 rintro σ' Hi aP
 refine aK fun G_ g_=>?_
 obtain⟨tX,cg,rv,o6,o7,o8,rfl,hLi,st,hbi,vH,Mu,Dq⟩:=aP
 refine g_ ?_;clear g_
 refine⟨_,rfl,_,rfl,zI (by show 2<=1000;decide),fun t ht=>?_⟩
 have u1:=zF ht (.tup [.ref tX,.ref pr])
 exact q t tX pr rv cg _ (LL.same hLi u1) (cP.trans st (cP.same cg u1)) zC (u1 _ _ hbi) (u1 _ _ vH) hpr Mu (Dq.mono fun _ _ z=>z.mono (aF.of u1))
inductive Wy where
 | to (g:Nat)
 | back (g:Nat)
 | stay
def Wy.tx:Wy->Str
 | .to _ => "to"
 | .back _ => "back"
 | .stay => "stay"
def Wy.gv:Wy->V
 | .to g=>.int (g:Int)
 | .back g=>.int (g:Int)
 | .stay=>.non
def Wy.gl:Wy->Nat
 | .to g=>g
 | .back g=>g
 | .stay=>0
structure Dx where
 room:Nat
 ev:Int
 g:Gd
 dd:List Dd
 way:Wy
def yX(H:Hp)(v:V)(d:Dx):Prop:=∃(a:Addr)(gv dv:V),v = .ref a/\H a=some (.tup [.int (d.room:Int),.int d.ev,gv,dv,.str d.way.tx,d.way.gv])/\jn H gv d.g/\qj H dv d.dd
theorem yX.mono{H H':Hp}{v:V}{d:Dx}(x:yX H v d)(k:aF H H'):yX H' v d:=by
 obtain⟨a,gv,dv,h1,h2,h3,h4⟩:=x
 exact⟨a,gv,dv,h1,k _ _ h2,h3.mono k,h4.mono k⟩
structure ig where
 od:Str
 lb:Nat
 tn:Nat
 sz:List Int
 rs:List Rm
 di:Nat->List Dd
 dO:Nat->List Dd
 ds:List Dx
def za(H:Hp)(pc:Addr)(c:ig):Prop:=∃(pb t pd:Addr)(x4:V)(bv dv:List V),H pc=some (.tup [.str c.od,.int (c.lb:Int),.int (c.tn:Int),.ref pb,x4,.ref t,.ref pd])/\H pb=some (.tup bv)/\Al (PL H) bv c.sz/\cD H t c.rs/\Xb H c.rs c.di c.dO/\H pd=some (.tup dv)/\Al (yX H) dv c.ds
theorem za.mono{H H':Hp}{pc:Addr}{c:ig}(x:za H pc c)(k:aF H H'):za H' pc c:=by
 obtain⟨pb,t,pd,x4,bv,dv,h1,h2,h3,h4,h5,h6,h7⟩:=x
 exact⟨pb,t,pd,x4,bv,dv,k _ _ h1,k _ _ h2,h3.mono fun _ _ z=>z.mono k,h4.mono k,h5.mono k,k _ _ h6,h7.mono fun _ _ z=>z.mono k⟩
structure vN(c:ig):Prop where
 good:Tr.Good (aA c.rs)
 r40:c.rs.length<=40
 b6:c.sz.length<=6
 pos:∀ z∈c.sz,0 < z
 NZ:c.lb<=12
 ins:∀ k:Nat,(∀ d∈c.di k,d.ok c.sz.length)/\(c.di k).length<=8
 outs:∀ k:Nat,(∀ d∈c.dO k,d.ok c.sz.length)/\(c.dO k).length<=8
 d63:c.ds.length<=63
 door:∀ d∈c.ds,d.room < c.rs.length/\d.way.gl < c.rs.length/\(∀ x∈d.dd,x.ok c.sz.length)/\d.dd.length<=8
structure S4 where
 os:List Nat
 bx:List Int
 ks:List (List Nat)
 l:List Int
def dI(H:Hp)(ps:Addr)(s:S4):Prop:=∃(po pb pk:Addr)(kv:List V),H ps=some (.tup [.ref po,.ref pb,.ref pk])/\H po=some (.tup (aB s.os))/\H pb=some (.tup (s.bx.map V.int))/\H pk=some (.tup kv)/\bL H kv s.ks
theorem dI.mono{H H':Hp}{ps:Addr}{s:S4}(x:dI H ps s)(k:aF H H'):dI H' ps s:=by
 obtain⟨po,pb,pk,kv,h1,h2,h3,h4,h5⟩:=x
 exact⟨po,pb,pk,kv,k _ _ h1,k _ _ h2,k _ _ h3,k _ _ h4,h5.mono k⟩
structure pZ(c:ig)(s:S4):Prop where
 inc:s.os.Pairwise (· < ·)
 lt:∀ o∈s.os,o < c.rs.length
 Hz:s.os.length<=40
 bx:s.bx.length=c.sz.length
 ks:s.ks.length=c.rs.length
 l:s.l.length<=c.lb
def gP(w:Wy)(ks:List (List Nat)):List Nat:=match w with
 | .to g=>[g]
 | .back g=>if ks.getD g []=[] then [g] else ks.getD g []
 | .stay=>[]
def iw:Wy->Bool
 | .stay=>true
 | _=>false
def cG(c:ig)(d:Dx):Option Nat:=Tr.hall (aA c.rs) (vL.isOne c.rs) d.room d.way.gl
def aO(c:ig)(d:Dx)(os:List Nat):List Nat:=if iw d.way=true then [] else vK.gj (aA c.rs) (cG c d) os
def eY(c:ig)(d:Dx)(os:List Nat)(ks:List (List Nat)):List (List Nat):=if iw d.way=true then ks else aj c.rs os (aO c d os) ks
def qi(c:ig)(d:Dx)(ks:List (List Nat))(ms:List Nat):Prop:=if iw d.way=true then ms=[] else Tr.Ov (aA c.rs) (iu c.rs) (gP d.way ks) (cG c d) ms
def bT(c:ig)(d:Dx)(os:List Nat):List Nat:=os.filter fun o => !inV (.int (o:Int)) (aB (aO c d os))
def au(c:ig)(k:Nat)(d:Dx)(os ms:List Nat):List Sd:=[(En.door k,[])]++((aO c d os).map fun r=>(En.out r,c.dO r))++[(En.thr k,d.dd)]++ms.map fun r=>(En.inn r,c.di r)
def vB(c:ig)(k:Nat)(s:S4)(es:List En)(s':S4):Prop:=∃(d:Dx)(ms:List Nat),c.ds[k]? = some d/\qi c d (eY c d s.os s.ks) ms/\s'.os.Perm (bT c d s.os++ms)/\s'.os.Pairwise (· < ·)/\s'.ks=eY c d s.os s.ks/\(s'.bx,s'.l,es)=bB c.sz c.lb (au c k d s.os ms) s.bx s.l
def Ls(c:ig)(d:Dx)(os:List Nat)(ks:List (List Nat)):Prop:=(∀ g∈gP d.way (eY c d os ks),g < c.rs.length)/\(gP d.way (eY c d os ks)).length<=100/\∀ ms:List Nat,qi c d (eY c d os ks) ms->(bT c d os++ms).Nodup/\(bT c d os++ms).length<=40/\∀ k∈ms,k < c.rs.length
def Jz:Sp:=fun vs H Q _ => ∃(pc pk:Addr)(kv:List V)(ks:List (List Nat))(c:ig)(k:Nat)(d:Dx),vs=[.ref pc,.ref pk,.int (k:Int)]/\za H pc c/\c.ds[k]? = some d/\H pk=some (.tup kv)/\bL H kv ks/\d.way.gl < ks.length/\(gP d.way ks).length<=100/\∀(p:Addr)(H':Hp),aM H H'->H p=none->H' p=some (.lst (aB (gP d.way ks)))->Q (.ref p) H'
def Dz(C:Addr):Sp:=fun vs H Q _ => ∃(pc ps p:Addr)(c:ig)(k:Nat)(ik:Int)(s:S4)(fp:List Addr)(d:Dx),vs=[.ref pc,.ref ps,.int ik,.ref p]/\ik=(k:Int)/\za H pc c/\vN c/\dI H ps s/\pZ c s/\c.ds[k]? = some d/\Ls c d s.os s.ks/\LL C H p fp c.lb s.l ∧
 ∀(t ps' pr:Addr)(rv:List V)(s':S4)(es:List En)(fp':List Addr)(H':Hp),vB c k s es s'->LL C H' p fp' c.lb s'.l->cP H H' fp fp'->H' t=some (.tup [.ref ps',.ref pr])->dI H' ps' s'->pZ c s'->H' pr=some (.lst rv)->H pr=none->pr ∉ fp'->Al (bw H') rv es->es.length<=1000->Q (.ref t) H'
theorem sy(rs:List Rm)(os:List Nat):∀(ls:List Nat)(ks:List (List Nat)),(aj rs os ls ks).length=ks.length
 | [],ks=>rfl
 | r :: ls,ks=>by
  show (aj rs os ls (if bM rs r=("" : Str) then ks else ks.set r (iY rs os r))).length=_
  rw[sy rs os ls]
  split
  ·rfl
  ·rw[List.length_set]
theorem tD{ds:List Int}{f:Nat->Bool}{a b u:Nat}(h:Tr.hall ds f a b=some u):u < a:=Tr.ou (List.mem_of_find?_eq_some h)
theorem Ey(ds:List Int)(un:Option Nat)(os:List Nat):(vK.gj ds un os).length<=os.length:=by
 unfold vK.gj
 rw[List.length_reverse]
 exact jh _ _
theorem pG:aN ["chart","kept","door","way","goal"] ["chart","kept","door"] (aG rZ):=⟨rfl,rfl,rfl,by decide +kernel,rfl,by decide +kernel,by decide +kernel⟩
theorem FQ{f:Addr}{fd:FuncData}(F:cZ K "goals_of" "goals_of" rZ f fd)(aY:mg "len" = none)(dH:mg "list" = none):aL P w K mg base aq 1 f fd ["chart","kept","door"] Jz:=by
 refine F.ok pG (fun vs H Q E h=>?_) (fun cdv A outer s H vs Q E hr h=>?_)
 ·refine aK fun G_ g_=>?_
  obtain⟨pc,pk,kv,ks,c,k,d,rfl,_⟩:=h
  refine g_ ?_;clear g_
  rfl
 refine aK fun G_ g_=>?_
 obtain⟨pc,pk,kv,ks,c,k,d,rfl,⟨pb,t,pd,x4,bv,dv,h1,h2,h3,h4,h5,h6,h7⟩,hd,Cr,hks,hgl,hl,q⟩:=h
 refine g_ ?_;clear g_
 refine⟨_,(zE (zK (i:=3) pG.nd rfl (Or.inl rfl) (yB zH (yB zH (yB zH (pv 0) zB (fun _ _=>rfl)) (pv 2) (fun _ _=>rfl)) zB (fun _ _=>rfl)))
  (zE (zK (i:=4) pG.nd rfl (Or.inl rfl) (yB zH (yB zH (yB zH (pv 0) zB (fun _ _=>rfl)) (pv 2) (fun _ _=>rfl)) zB (fun _ _=>rfl)))
  (zE (yD (zL yG (pv 3) zP (zR _))
  (zG (zO (yK zD)))
  zT)
  (zE (yD (PW.pt (pw_and (zL yG (pv 3) zP (zR _)) (yP (zL fY (zS zN rfl aY PySem.boot_len (zA (yB zH (pv 1) (pv 4) (fun _ _=>rfl)) zD)) zB (zR _)))))
  (zG (zO (yA eO rfl dH PyProof.Rows.boot_list (zA (yB zH (pv 1) (pv 4) (fun _ _=>rfl)) zD))))
  zT)
  (zG (zO (yK (zA (pv 4) zD)))))))),?_⟩
 refine aK fun G_ g_=>?_
 obtain⟨v,hv,a,gv,Sy,rfl,g1,g2,g3⟩:=h7.get hd
 refine g_ ?_;clear g_
 have hat:=yQ hv
 refine⟨_,rfl,aD (aH.of h1) rfl ⟨_,rfl,aD (aH.of h6) hat (aD (aH.of g1) rfl ?_)⟩⟩
 refine⟨_,rfl,aD (aH.of h1) rfl ⟨_,rfl,aD (aH.of h6) hat (aD (aH.of g1) rfl ?_)⟩⟩
 clear g1 hd
 refine aK fun G_ g_=>?_
 obtain⟨rm,ev,gg,dd,wy⟩:=d
 refine g_ ?_;clear g_
 cases wy with
 | stay=>exact⟨_,rfl,rfl,_,rfl,vG (by show decide (V.str ("stay" : Str)=V.str "stay")=true;decide +kernel) ⟨Nat.zero_le _,fun p hp=>q p _ (zF hp _) hp zC⟩⟩
 | to g=>
  refine⟨_,rfl,rfl,_,rfl,uQ (by show decide (V.str ("to" : Str)=V.str "stay")=false;decide +kernel) ?_⟩
  refine⟨_,rfl,rfl,_,rfl,uQ (by show decide (V.str ("to" : Str)=V.str "back")=false;decide +kernel) ?_⟩
  exact uQ rfl ⟨_,rfl,zI (by show 1<=1000;decide),fun p hp=>q p _ (zF hp _) hp zC⟩
 | back g=>
  have hg:g < ks.length:=hgl
  refine aK fun G_ g_=>?_
  obtain⟨v2,hv2,ak,rfl,hak⟩:=hks.get (cj hg)
  refine g_ ?_;clear g_
  have xU:=yQ hv2
  have eg:ks.getD g []=ks[g]:=by rw[jl,cj hg];rfl
  have q':∀(p:Addr)(H':Hp),aM H H'->H p=none->H' p=some (.lst (aB (if ks[g]=[] then [g] else ks[g])))->Q (.ref p) H':=fun p H' s1 hp h=>q p H' s1 hp (by
   show H' p=some (.lst (aB (if ks.getD g []=[] then [g] else ks.getD g [])))
   rw[eg]
   exact h)
  refine⟨_,rfl,rfl,_,rfl,uQ (by show decide (V.str ("back" : Str)=V.str "stay")=false;decide +kernel) ?_⟩
  refine⟨_,rfl,rfl,_,rfl,vG (by show decide (V.str ("back" : Str)=V.str "back")=true;decide +kernel) ?_⟩
  refine⟨_,rfl,_,rfl,pk,kv,_,_,rfl,rfl,aH.of Cr,xU,fW rfl (.inr (aH.of hak)) (bF ⟨_,rfl,cW (fun z=>?_) (fun z=>?_)⟩)⟩
  ·have z':(0:Int) < ((aB ks[g]).length:Int):=of_decide_eq_true z
   rw[zU]at z'
   have hne:ks[g] ≠ []:=fun e=>by
    rw[e]at z'
    exact absurd z' (by decide)
   rw[if_neg hne]at q'
   exact⟨_,rfl,_,rfl,pk,kv,_,_,rfl,rfl,aH.of Cr,xU,fW rfl (.inr (aH.of hak)) (fun p hp=>q' p _ (zF hp _) hp zC)⟩
  ·have z':¬ (0:Int) < ((aB ks[g]).length:Int):=of_decide_eq_false z
   rw[zU]at z'
   have he:ks[g]=[]:=List.length_eq_zero_iff.mp (by lia)
   rw[if_pos he]at q'
   exact⟨_,rfl,zI (by show 1<=1000;decide),fun p hp=>q' p _ (zF hp _) hp zC⟩
abbrev By:Scope:=⟨.function,[("chart",.local),("stand",.local),("door",.local),("letters",.local),("rooms",.local),("parts",.local),("opening",.local),("kept",.local),("left",.cell),("entered",.local),("hall",.local),("through",.local),("steps",.local),("told",.local),("staying",.local),("hall_over",.globalImplicit),("goings_out",.globalImplicit),("keeping",.globalImplicit),("goings_in",.globalImplicit),("goals_of",.globalImplicit),("steps_out",.globalImplicit),("steps_in",.globalImplicit),("stepped",.globalImplicit),("sizes_of",.globalImplicit),("tuple",.globalImplicit),("sorted",.globalImplicit)],false,false,(aG pI).more⟩
theorem Ma:aG pI=By:=by rfl
theorem bZ:aN ["chart","stand","door","letters","rooms","parts","opening","kept","left","entered","hall","through","steps","told","staying"] ["chart","stand","door","letters"] By:=⟨rfl,rfl,rfl,by decide +kernel,rfl,by decide +kernel,by decide +kernel⟩
theorem Mh{n:Nat}{f g1 g2 g3 g4 g5 g6 g7 g8 g9:Addr}{fd d1 d2 d3 d4 d5 d6 d7 d8 d9:FuncData}(F:cZ K "passed" "passed" pI f fd)
  (Gn:aL P w K mg base aq n g1 d1 ["rooms","one","other"] vL.QJ) (Gb:Binds K d1 ["rooms","one","other"] []) (Fz:KI K g1) (Fl:mg "hall_over" = some (.ref g1))
  (oM:aL P w K mg base aq n g2 d2 ["rooms","under","opening"] vK.Q8) (oG:Binds K d2 ["rooms","under","opening"] []) (ni:KI K g2) (nR:mg "goings_out" = some (.ref g2))
  (PB:aL P w K mg base aq n g3 d3 ["rooms","opening","left","kept"] zx) (Oj:Binds K d3 ["rooms","opening","left","kept"] []) (Nr:KI K g3) (N7:mg "keeping" = some (.ref g3))
  (Gp:aL P w K mg base aq n g4 d4 ["rooms","under","goals"] qB3) (Ge:Binds K d4 ["rooms","under","goals"] []) (GC:KI K g4) (Fo:mg "goings_in" = some (.ref g4))
  (Jk:aL P w K mg base aq n g5 d5 ["chart","kept","door"] Jz) (JX:Binds K d5 ["chart","kept","door"] []) (J7:KI K g5) (Iu:mg "goals_of" = some (.ref g5))
  (Gk:aL P w K mg base aq n g6 d6 ["rooms","left"] (q8 En.out false)) (GZ:Binds K d6 ["rooms","left"] []) (Fx:KI K g6) (Fi:mg "steps_out" = some (.ref g6))
  (Jh:aL P w K mg base aq n g7 d7 ["rooms","entered"] (q8 En.inn true)) (JT:Binds K d7 ["rooms","entered"] []) (J0:KI K g7) (Im:mg "steps_in" = some (.ref g7))
  (Oz:aL P w K mg base aq n g8 d8 ["steps","boxes","sizes","letters"] (zm C)) (Oh:Binds K d8 ["steps","boxes","sizes","letters"] []) (Np:KI K g8) (N5:mg "stepped" = some (.ref g8))
  (Ji:aL P w K mg base aq n g9 d9 ["chart"] Jt) (JV:Binds K d9 ["chart"] []) (J5:KI K g9) (Io:mg "sizes_of" = some (.ref g9))
  (aa:mg "tuple" = none) (dB:mg "sorted" = none):aL P w K mg base aq (n+1) f fd ["chart","stand","door","letters"] (Dz C):=by
 refine okS By Ma F bZ (fun vs H Q E h=>?_) (fun cdv A outer s H vs Q E hr h=>?_)
 ·refine aK fun G_ g_=>?_
  obtain⟨pc,ps,p,c,k,ik,s,fp,d,rfl,_⟩:=h
  refine g_ ?_;clear g_
  rfl
 refine aK fun G_ g_=>?_
 obtain⟨pc,ps,p,c,k,ik,st,fp,d,rfl,rfl,hC,ok,hS,so,hd,mp,hL,q⟩:=h
 refine g_ ?_;clear g_
 refine⟨_,(zE (zK (i:=4) bZ.nd rfl (Or.inl rfl) (yB zH (pv 0) zB (fun _ _=>rfl)))
  (zE (zK (i:=5) bZ.nd rfl (Or.inl rfl) (yB zH (yB zH (pv 0) zB (fun _ _=>rfl)) (pv 2) (fun _ _=>rfl)))
  (zE (zK (i:=6) bZ.nd rfl (Or.inl rfl) (yB zH (pv 1) zB (fun _ _=>rfl)))
  (zE (zK (i:=7) bZ.nd rfl (Or.inl rfl) (yB zH (pv 1) zB (fun _ _=>rfl)))
  (zE (zK (i:=8) bZ.nd rfl (Or.inr rfl) (yK zD))
  (zE (zK (i:=9) bZ.nd rfl (Or.inl rfl) (yK zD))
  (zZ (yD (zL Ez (yB zH (pv 5) zB (fun _ _=>rfl)) zP (zR _))
  (zE (zK (i:=10) bZ.nd rfl (Or.inl rfl) (zJ Gn hr rfl Fl Fz Gb .nil yE (zA (pv 4) (zA (yB zH (pv 5) zB (fun _ _=>rfl)) (zA (yB zH (pv 5) zB (fun _ _=>rfl)) zD)))))
  (zE (zK (i:=8) bZ.nd rfl (Or.inr rfl) (zJ oM hr rfl nR ni oG .nil yE (zA (pv 4) (zA (pv 10) (zA (pv 6) zD)))))
  (zE (zK (i:=7) bZ.nd rfl (Or.inl rfl) (zJ PB hr rfl N7 Nr Oj .nil yE (zA (pv 4) (zA (pv 6) (zA (pv 8) (zA (pv 7) zD))))))
  (zG (zK (i:=9) bZ.nd rfl (Or.inl rfl) (zJ Gp hr rfl Fo GC Ge .nil yE (zA (pv 4) (zA (pv 10) (zA (zJ Jk hr rfl Iu J7 JX .nil yE (zA (pv 0) (zA (pv 7) (zA (pv 2) zD)))) zD)))))))))
  zT)
  (zE (zK (i:=11) bZ.nd rfl (Or.inl rfl) (yK (zA (zW (zA (zW (zA zP (zA (pv 2) zD))) (zA (yB zH (pv 5) zB (fun _ _=>rfl)) zD))) zD)))
  (zE (zK (i:=12) bZ.nd rfl (Or.inl rfl) (yC kj (yC kj (yC kj (yK (zA (zW (zA (zW (zA zP (zA (pv 2) zD))) (zA (zW zD) zD))) zD)) (zJ Gk hr rfl Fi Fx GZ .nil yE (zA (pv 4) (zA (pv 8) zD)))) (pv 11)) (zJ Jh hr rfl Im J0 JT .nil yE (zA (pv 4) (zA (pv 9) zD)))))
  (zE (zK (i:=13) bZ.nd rfl (Or.inl rfl) (zJ Oz hr rfl N5 Np Oh .nil yE (zA (pv 12) (zA (yB zH (pv 1) zB (fun _ _=>rfl)) (zA (zJ Ji hr rfl Io J5 JV .nil yE (zA (pv 0) zD)) (zA (pv 3) zD))))))
  (zE (iJ (i:=14) (bY:=[(8,"left")]) rfl bZ.nd rfl (Or.inl rfl) (show bQ By ["chart","stand","door","letters","rooms","parts","opening","kept","left","entered","hall","through","steps","told","staying"] _ _ _ from ⟨rfl,rfl,by decide +kernel,by decide +kernel,by decide +kernel,by decide +kernel,by decide +kernel⟩) (nJ (pv 6)) (fun _ _ _ _ _ _=>bU (zL (r:=rIn K true) du (pv 0) (pv 1) rfl)) (fun _ _ _ _ _ _=>(pv 0)))
  (zG (zO (zW (zA (zW (zA (yA zX rfl aa PyProof.Rows.boot_tuple (zA (zS jz rfl dB PyProof.Rows.boot_sorted (zA (yC kj (pv 14) (pv 9)) zD)) zD)) (zA (yB zH (pv 13) zB (fun _ _=>rfl)) (zA (pv 7) zD)))) (zA (yB zH (pv 13) zB (fun _ _=>rfl)) zD)))))))))))))))),?_⟩
 refine aK fun G_ g_=>?_
 obtain⟨pb,t,pd,x4,bv,dv,h1,h2,h3,h4,h5,h6,h7⟩:=id hC
 obtain⟨po,PX,pk,kv,e1,e2,e3,e4,e5⟩:=id hS
 obtain⟨v,hv,a,gv,Sy,rfl,y1,y2,y3⟩:=h7.get hd
 refine g_ ?_;clear g_
 have hat:=yQ hv
 have od:=ok.door d (List.mem_of_getElem? hd)
 refine⟨_,rfl,aD (aH.of h1) rfl ?_⟩
 refine⟨_,rfl,aD (aH.of h1) rfl ⟨_,rfl,aD (aH.of h6) hat ?_⟩⟩
 refine⟨_,rfl,aD (aH.of e1) rfl ?_⟩
 refine⟨_,rfl,aD (aH.of e1) rfl ?_⟩
 refine⟨Nat.zero_le _,fun pl0 Ys=>⟨Nat.zero_le _,fun pe0 Yt=>?_⟩⟩
 have u1:=(zF Ys (.lst [])).trans (zF Yt (.lst []))
 have hl0:(upd (upd H pl0 (.lst [])) pe0 (.lst [])) pl0=some (.lst (aB [])):=zF Yt _ _ _ zC
 have he0:(upd (upd H pl0 (.lst [])) pe0 (.lst [])) pe0=some (.lst (aB [])):=zC
 generalize upd (upd H pl0 (.lst [])) pe0 (.lst [])=H1 at u1 hl0 he0 ⊢
 refine⟨fun σ' H' => ∃(tY pf pe:Addr)(ur:List V)(ms:List Nat)(Dp:Option V),H pf=none/\H pe=none/\aM H H'/\H' pf=some (.lst (aB (aO c d st.os)))/\H' pe=some (.lst (aB ms))/\qi c d (eY c d st.os st.ks) ms/\H' tY=some (.tup ur)/\bL H' ur (eY c d st.os st.ks)/\σ'=[some (.ref pc),some (.ref ps),some (.int (k:Int)),some (.ref p),some (.ref t),some (.ref a),some (.ref po),some (.ref tY),some (.ref pf),some (.ref pe),Dp,none,none,none,none],?_,?_⟩
 ·refine⟨_,rfl,aD (aH.of (u1 _ _ y1)) rfl ⟨rfl,_,rfl,cW (fun cw=>?_) (fun cw=>?_)⟩⟩
  rotate_left
  ·have hs:iw d.way=true:=by
    cases hw:d.way with
    | stay=>rfl
    | to g=>rw[hw]at cw;exact absurd cw (by show ¬ (!decide (V.str ("to" : Str)=V.str "stay"))=false;decide +kernel)
    | back g=>rw[hw]at cw;exact absurd cw (by show ¬ (!decide (V.str ("back" : Str)=V.str "stay"))=false;decide +kernel)
   have el:aO c d st.os=[]:=if_pos hs
   have ek:eY c d st.os st.ks=st.ks:=if_pos hs
   rw[el,ek]
   exact⟨pk,pl0,pe0,kv,[],_,Ys,(zF Ys _).free Yt,u1,hl0,he0,(show qi c d st.ks [] from (if_pos hs).mpr rfl),u1 _ _ e4,e5.mono (aF.of u1),rfl⟩
  have hs:iw d.way=false:=by
   cases hw:d.way with
   | stay=>rw[hw]at cw;exact absurd cw (by show ¬ (!decide (V.str ("stay" : Str)=V.str "stay"))=true;decide +kernel)
   | to g=>rfl
   | back g=>rfl
  have hs':¬ iw d.way=true:=by rw[hs];decide
  have el:aO c d st.os=vK.gj (aA c.rs) (cG c d) st.os:=if_neg hs'
  have ek:eY c d st.os st.ks=aj c.rs st.os (aO c d st.os) st.ks:=if_neg hs'
  have egv:d.way.gv = .int ((d.way.gl:Nat):Int):=by
   cases hw:d.way with
   | stay=>rw[hw]at hs;cases hs
   | to g=>rfl
   | back g=>rfl
  rw[egv]at y1
  refine⟨_,rfl,_,rfl,aD (aH.of (u1 _ _ y1)) rfl ⟨_,rfl,aD (aH.of (u1 _ _ y1)) rfl ⟨t,c.rs,d.room,d.way.gl,rfl,h4.mono (aF.of u1),ok.good,ok.r40,od.1,od.2.1,fun H2 s2=>?_⟩⟩⟩
  have s12:=u1.trans s2
  have tD:∀ u,cG c d=some u->u < c.rs.length:=fun u hu=>by
   have:=tD hu
   have:=od.1
   lia
  refine⟨_,rfl,_,rfl,_,rfl,t,po,c.rs,cG c d,st.os,rfl,h4.mono (aF.of s12),ok.good,ok.r40,tD,s12 _ _ e2,so.lt,so.Hz,so.inc,fun pf H3 s3 npf hpf=>?_⟩
  rw[<-el]at hpf
  have Ad:=s12.trans s3
  have llt:∀ o∈aO c d st.os,o < c.rs.length:=fun o ho=>by
   rw[el]at ho
   have:=List.mem_reverse.mp ho
   exact so.lt o (dq.mp this).1
  refine⟨_,rfl,_,rfl,_,rfl,_,rfl,t,po,pf,pk,c.rs,st.os,aO c d st.os,kv,st.ks,rfl,h4.mono (aF.of Ad),ok.good,ok.r40,Ad _ _ e2,so.lt,so.Hz,so.inc,hpf,llt,Ad _ _ e4,e5.mono (aF.of Ad),so.ks,fun tY ur H4 s4 Vp Vr=>?_⟩
  have Ha:=Ad.trans s4
  refine⟨_,rfl,_,rfl,_,rfl,_,rfl,_,rfl,pc,tY,ur,eY c d st.os st.ks,c,k,d,rfl,hC.mono (aF.of Ha),hd,Vp,(by rw[ek];exact Vr),(by rw[ek,sy,so.ks];exact od.2.1),mp.2.1,fun pg H5 s5 npg UW=>?_⟩
  have Gu:=Ha.trans s5
  refine⟨t,pg,c.rs,cG c d,gP d.way (eY c d st.os st.ks),rfl,h4.mono (aF.of Gu),ok.good,ok.r40,tD,⟨UW,mp.1,mp.2.1⟩,fun pe ms H6 s6 Mv hpe hms=>?_⟩
  exact⟨tY,pf,pe,ur,ms,_,s12.free npf,Gu.free Mv,Gu.trans s6,s6 _ _ (s5 _ _ (s4 _ _ hpf)),hpe,(if_neg hs').mpr hms,s6 _ _ (s5 _ _ Vp),(by rw[ek];exact Vr.mono (aF.of (s5.trans s6))),rfl⟩
 rintro σ' H2 aP
 refine aK fun G_ g_=>?_
 obtain⟨tY,pf,pe,ur,ms,Dp,npf,Mv,s2,h2f,h2e,hms,h2k,qE4,rfl⟩:=aP
 obtain⟨nd,l40,mlt⟩:=mp.2.2 ms hms
 refine g_ ?_;clear g_
 have lm:ms.length<=40:=by
  rw[dJ]at l40
  lia
 have ll:(aO c d st.os).length<=40:=by
  unfold aO
  split
  ·exact Nat.zero_le _
  ·exact Nat.le_trans (Ey _ _ _) so.Hz
 have llt:∀ o∈aO c d st.os,o < c.rs.length:=fun o ho=>by
  unfold aO at ho
  split at ho
  ·cases ho
  have:=List.mem_reverse.mp ho
  exact so.lt o (dq.mp this).1
 -- through
 refine⟨_,rfl,zI (by show 2<=1000;decide),fun p1 hp1=>?_⟩
 have v1:=zF hp1 (.tup [V.str ("through" : Str),V.int (k:Int)])
 have i1:upd H2 p1 (.tup [V.str ("through" : Str),V.int (k:Int)]) p1=some (.tup (En.thr k).row):=zC
 generalize upd H2 p1 (.tup [V.str ("through" : Str),V.int (k:Int)])=H3 at v1 i1 ⊢
 refine⟨_,rfl,aD (aH.of (v1 _ _ (s2 _ _ y1))) rfl ⟨zI (by show 2<=1000;decide),fun p2 hp2=>?_⟩⟩
 have v2:=zF hp2 (.tup [V.ref p1,Sy])
 have i2:upd H3 p2 (.tup [V.ref p1,Sy]) p2=some (.tup [V.ref p1,Sy]):=zC
 generalize upd H3 p2 (.tup [V.ref p1,Sy])=H4 at v2 i2 ⊢
 refine⟨zI (by show 1<=1000;decide),fun pth qDO=>?_⟩
 have v3:=zF qDO (.lst [V.ref p2])
 have i3:upd H4 pth (.lst [V.ref p2]) pth=some (.lst [V.ref p2]):=zC
 generalize upd H4 pth (.lst [V.ref p2])=H5 at v3 i3 ⊢
 have s5:=s2.trans (v1.trans (v2.trans v3))
 have at5:Al (tO H5) [V.ref p2] [(En.thr k,d.dd)]:=.cons ⟨p2,p1,Sy,rfl,v3 _ _ i2,v3 _ _ (v2 _ _ i1),y3.mono (aF.of s5)⟩ .nil
 -- the door's own mark
 refine⟨_,rfl,zI (by show 2<=1000;decide),fun q1 hq1=>?_⟩
 have w1:=zF hq1 (.tup [V.str ("door" : Str),V.int (k:Int)])
 have j1:upd H5 q1 (.tup [V.str ("door" : Str),V.int (k:Int)]) q1=some (.tup (En.door k).row):=zC
 generalize upd H5 q1 (.tup [V.str ("door" : Str),V.int (k:Int)])=H6 at w1 j1 ⊢
 refine⟨Nat.zero_le _,fun q2 hq2=>?_⟩
 have w2:=zF hq2 (.tup [])
 have j2:upd H6 q2 (.tup []) q2=some (.tup []):=zC
 generalize upd H6 q2 (.tup [])=H7 at w2 j2 ⊢
 refine⟨zI (by show 2<=1000;decide),fun q3 hq3=>?_⟩
 have w3:=zF hq3 (.tup [V.ref q1,V.ref q2])
 have j3:upd H7 q3 (.tup [V.ref q1,V.ref q2]) q3=some (.tup [V.ref q1,V.ref q2]):=zC
 generalize upd H7 q3 (.tup [V.ref q1,V.ref q2])=H8 at w3 j3 ⊢
 refine⟨zI (by show 1<=1000;decide),fun q4 hq4=>?_⟩
 have w4:=zF hq4 (.lst [V.ref q3])
 have j4:upd H8 q4 (.lst [V.ref q3]) q4=some (.lst [V.ref q3]):=zC
 generalize upd H8 q4 (.lst [V.ref q3])=H9 at w4 j4 ⊢
 have w59:=w1.trans (w2.trans (w3.trans w4))
 have s9:=s5.trans w59
 have at9:Al (tO H9) [V.ref q3] [(En.door k,([]:List Dd))]:=.cons ⟨q3,q1,V.ref q2,rfl,w4 _ _ j3,w4 _ _ (w3 _ _ (w2 _ _ j1)),q2,[],rfl,w4 _ _ (w3 _ _ j2),.nil⟩ .nil
 have f9:aM H2 H9:=v1.trans (v2.trans (v3.trans w59))
 refine⟨_,rfl,_,rfl,t,pf,c.rs,c.di,c.dO,aO c d st.os,rfl,h4.mono (aF.of s9),h5.mono (aF.of s9),f9 _ _ h2f,llt,by lia,fun pso Gz Je Ek npso qDR hAo=>?_⟩
 have lo:Gz.length=(aO c d st.os).length:=by
  have:=hAo.length
  rw[cM]at this
  exact this
 refine⟨q4,pso,_,_,rfl,rfl,Ek _ _ j4,qDR,(by rw[sizeLine_eq,lo];show 1+_<=_;lia),fun c1 hc1=>?_⟩
 have z1:=zF hc1 (.lst ([V.ref q3]++Gz))
 have k1:upd Je c1 (.lst ([V.ref q3]++Gz)) c1=some (.lst ([V.ref q3]++Gz)):=zC
 generalize upd Je c1 (.lst ([V.ref q3]++Gz))=Tq at z1 k1 ⊢
 have f11:aM H5 Tq:=w59.trans (Ek.trans z1)
 refine⟨_,rfl,c1,pth,_,_,rfl,rfl,k1,f11 _ _ i3,(by rw[sizeLine_eq,dJ,lo];show 1+_+1<=_;lia),fun c2 hc2=>?_⟩
 have z2:=zF hc2 (.lst ([V.ref q3]++Gz++[V.ref p2]))
 have k2:upd Tq c2 (.lst ([V.ref q3]++Gz++[V.ref p2])) c2=some (.lst ([V.ref q3]++Gz++[V.ref p2])):=zC
 generalize upd Tq c2 (.lst ([V.ref q3]++Gz++[V.ref p2]))=Pn at z2 k2 ⊢
 have s12:=s9.trans (Ek.trans (z1.trans z2))
 have Vv:aM H2 Pn:=f9.trans (Ek.trans (z1.trans z2))
 refine⟨_,rfl,_,rfl,t,pe,c.rs,c.di,c.dO,ms,rfl,h4.mono (aF.of s12),h5.mono (aF.of s12),Vv _ _ h2e,mlt,by lia,fun fu Xl Wa Ad npsi qDS yu=>?_⟩
 have li:Xl.length=ms.length:=by
  have:=yu.length
  rw[cM]at this
  exact this
 refine⟨c2,fu,_,_,rfl,rfl,Ad _ _ k2,qDS,(by rw[sizeLine_eq,dJ,dJ,lo,li];show 1+_+1+_<=_;lia),fun c3 hc3=>?_⟩
 have z3:=zF hc3 (.lst ([V.ref q3]++Gz++[V.ref p2]++Xl))
 have k3:upd Wa c3 (.lst ([V.ref q3]++Gz++[V.ref p2]++Xl)) c3=some (.lst ([V.ref q3]++Gz++[V.ref p2]++Xl)):=zC
 generalize upd Wa c3 (.lst ([V.ref q3]++Gz++[V.ref p2]++Xl))=Tp at z3 k3 ⊢
 have Ha:=s12.trans (Ad.trans z3)
 have f14:aM H2 Tp:=Vv.trans (Ad.trans z3)
 have qEJ:Al (tO Tp) ([V.ref q3]++Gz++[V.ref p2]++Xl) (au c k d st.os ms):=by
  have a1:Al (tO Tp) [V.ref q3] [(En.door k,([]:List Dd))]:=at9.mono fun _ _ z=>z.mono (aF.of (Ek.trans (z1.trans (z2.trans (Ad.trans z3)))))
  have a2:Al (tO Tp) Gz ((aO c d st.os).map fun r=>(En.out r,c.dO r)):=hAo.mono fun _ _ z=>z.mono (aF.of (z1.trans (z2.trans (Ad.trans z3))))
  have a3:Al (tO Tp) [V.ref p2] [(En.thr k,d.dd)]:=at5.mono fun _ _ z=>z.mono (aF.of (f11.trans (z2.trans (Ad.trans z3))))
  have a4:Al (tO Tp) Xl (ms.map fun r=>(En.inn r,c.di r)):=yu.mono fun _ _ z=>z.mono (aF.of z3)
  exact Al.app (Al.app (Al.app a1 a2) a3) a4
 refine⟨_,rfl,_,rfl,aD (aH.of (Ha _ _ e1)) rfl ⟨_,rfl,pc,pb,_,_,_,_,_,_,bv,c.sz,rfl,Ha _ _ h1,Ha _ _ h2,h3.mono (fun _ _ z=>z.mono (aF.of Ha)),(by have:=ok.b6;lia),fun tz H15 Gu htz=>?_⟩⟩
 have Us:=Ha.trans Gu
 have qC5:=LL.same hL Us
 have nc3:c3 ∉ fp:=fun z=>by
  have e0:=(s12.trans Ad).free hc3
  exact LL.new hL e0 z
 have lens:(au c k d st.os ms).length<=110:=by
  unfold au
  rw[dJ,dJ,dJ,cM,cM]
  show 1+_+1+_<=110
  lia
 have oks:∀ s∈au c k d st.os ms,(∀ d∈s.2,d.ok st.bx.length)/\s.2.length<=8:=fun s hs=>by
  rw[so.bx]
  unfold au at hs
  rcases cX.mp hs with hs | hs
  ·rcases cX.mp hs with hs | hs
   ·rcases cX.mp hs with hs | hs
    ·rw[cJ.mp hs]
     exact⟨(fun d hd=>by cases hd),Nat.zero_le _⟩
    ·refine aK fun G_ g_=>?_
     obtain⟨r,_,rfl⟩:=fO.mp hs
     refine g_ ?_;clear g_
     exact ok.outs r
   ·rw[cJ.mp hs]
    exact od.2.2
  ·refine aK fun G_ g_=>?_
   obtain⟨r,_,rfl⟩:=fO.mp hs
   refine g_ ?_;clear g_
   exact ok.ins r
 refine⟨_,rfl,c3,PX,tz,p,_,_,st.bx,c.sz,st.l,fp,c.lb,rfl,Gu _ _ k3,nc3,qEJ.mono (fun _ _ z=>z.mono (aF.of Gu)),Us _ _ e3,htz,qC5,oks,lens,so.bx,(by rw[so.bx];exact ok.b6),ok.pos,so.l,ok.NZ,fun tt tb' pr rv fp' Xd qED Uk htt htb hpr Kc qBD hes=>?_⟩
 have k16:aF H15 Xd:=cP.keep Uk qC5
 have stA:cP H Xd fp fp':=cP.trans (cP.same fp Us) Uk
 have kA:aF H Xd:=cP.keep stA hL
 have qD2:Xd pf=some (.lst (aB (aO c d st.os))):=Uk.rest _ _ (Gu _ _ (f14 _ _ h2f)) (LL.new hL npf)
 have qD3:Xd pe=some (.lst (aB ms)):=Uk.rest _ _ (Gu _ _ (f14 _ _ h2e)) (LL.new hL Mv)
 have qD1:Xd tY=some (.tup ur):=k16 _ _ (Gu _ _ (f14 _ _ h2k))
 have qDI:=qE4.mono (aF.trans (aF.of (f14.trans Gu)) k16)
 refine⟨_,rfl,po,rfl,⟨_,aH.of (kA _ _ e2)⟩,?_⟩
 refine mD (K:=K) (a:=po) (xs:=aB st.os) (fun i acc H'=>H'=Xd/\acc=aB ((st.os.take i).filter fun o => !inV (.int (o:Int)) (aB (aO c d st.os)))) ⟨rfl,rfl⟩ (fun i acc H' z=>by rw[z.1];exact aH.of (kA _ _ e2)) ?_ ?_
 ·rintro i x acc H' hx ⟨rfl,rfl⟩
  obtain⟨hi,rfl⟩:=yR hx
  have hk:=cj hi
  generalize st.os[i]=o at hk
  refine⟨_,rfl,_,rfl,fW rfl (.inl (aX.of qD2)) ⟨rfl,gq _,_,rfl,cW (fun z=>?_) (fun z=>?_)⟩⟩
  ·refine⟨_,rfl,?_,rfl,?_⟩
   ·rw[zU,sizeLine_eq]
    have:=jh (fun o:Nat => !inV (.int (o:Int)) (aB (aO c d st.os))) (st.os.take i)
    rw[dN]at this
    have:=so.Hz
    lia
   ·have z2:(!inV (.int (o:Int)) (aB (aO c d st.os)))=true:=z
    rw[bH hk,if_pos z2]
    unfold aB
    rw[jH]
    rfl
  ·refine⟨rfl,?_⟩
   have z2:(!inV (.int (o:Int)) (aB (aO c d st.os)))=false:=z
   have z':¬ (!inV (.int (o:Int)) (aB (aO c d st.os)))=true:=fun y=>by
    rw[z2]at y
    cases y
   rw[bH hk,if_neg z',dM]
 rintro acc H17 ⟨rfl,qC8⟩ rE qDP
 have ea:(st.os.take (aB st.os).length).filter (fun o:Nat => !inV (.int (o:Int)) (aB (aO c d st.os)))=bT c d st.os:=by
  rw[zU,tW (bu _)]
  rfl
 rw[ea]at qC8
 subst qC8
 have u17:=zF qDP (.lst (aB (bT c d st.os)))
 have h17:upd H17 rE (.lst (aB (bT c d st.os))) rE=some (.lst (aB (bT c d st.os))):=zC
 generalize upd H17 rE (.lst (aB (bT c d st.os)))=H18 at u17 h17 ⊢
 rw[dJ]at l40
 refine⟨_,rfl,_,rfl,rE,pe,_,_,rfl,rfl,h17,u17 _ _ qD3,(by rw[zU,zU,sizeLine_eq];lia),fun V6 qBX=>?_⟩
 have u18:=zF qBX (.lst (aB (bT c d st.os)++aB ms))
 have h18:upd H18 V6 (.lst (aB (bT c d st.os)++aB ms)) V6=some (.lst ((bT c d st.os++ms).map fun j:Nat=>V.int (j:Int))):=by
  rw[zC]
  unfold aB
  rw[jH]
 generalize upd H18 V6 (.lst (aB (bT c d st.os)++aB ms))=H19 at u18 h18 ⊢
 refine⟨V6,(bT c d st.os++ms).map fun j:Nat=>(j:Int),rfl,.inl (aX.of (by rw[h18,cO])),(by rw[cM,dJ];lia),fun Uy rs' Yr perm M6=>?_⟩
 refine aK fun G_ g_=>?_
 obtain⟨os',rfl,rise,hpm⟩:=jo perm M6 nd
 refine g_ ?_;clear g_
 have u19:=zF Yr (.lst ((os'.map fun j:Nat=>(j:Int)).map V.int))
 have h19:upd H19 Uy (.lst ((os'.map fun j:Nat=>(j:Int)).map V.int)) Uy=some (.lst ((os'.map fun j:Nat=>(j:Int)).map V.int)):=zC
 generalize upd H19 Uy (.lst ((os'.map fun j:Nat=>(j:Int)).map V.int))=H20 at u19 h19 ⊢
 refine⟨Uy,_,rfl,.inl ⟨aX.of h19,fun Wq qDN=>?_⟩⟩
 have u20:=zF qDN (.tup ((os'.map fun j:Nat=>(j:Int)).map V.int))
 have h20:upd H20 Wq (.tup ((os'.map fun j:Nat=>(j:Int)).map V.int)) Wq=some (.tup (aB os')):=by
  rw[zC,<-cO]
  rfl
 generalize upd H20 Wq (.tup ((os'.map fun j:Nat=>(j:Int)).map V.int))=H21 at u20 h20 ⊢
 have r21:aM H17 H21:=u17.trans (u18.trans (u19.trans u20))
 refine⟨_,rfl,aD (aH.of (r21 _ _ htt)) rfl ⟨_,rfl,zI (by show 3<=1000;decide),fun pss qDQ=>?_⟩⟩
 have u21:=zF qDQ (.tup [V.ref Wq,V.ref tb',V.ref tY])
 have h21:upd H21 pss (.tup [V.ref Wq,V.ref tb',V.ref tY]) pss=some (.tup [V.ref Wq,V.ref tb',V.ref tY]):=zC
 generalize upd H21 pss (.tup [V.ref Wq,V.ref tb',V.ref tY])=H22 at u21 h21 ⊢
 have r22:=r21.trans u21
 refine⟨_,rfl,aD (aH.of (r22 _ _ htt)) rfl ⟨zI (by show 2<=1000;decide),fun pot qDV=>?_⟩⟩
 have u22:=zF qDV (.tup [V.ref pss,V.ref pr])
 have r23:=r22.trans u22
 have ksl:(eY c d st.os st.ks).length=c.rs.length:=by
  unfold eY
  split
  ·exact so.ks
  ·rw[sy]
   exact so.ks
 have les:=wK (sz:=c.sz) (m:=c.lb) (bx:=st.bx) (l:=st.l) fun y hy=>(oks y hy).2
 have ko:=hpm.length_eq
 rw[dJ]at ko
 refine q pot pss pr rv ⟨os',(bB c.sz c.lb (au c k d st.os ms) st.bx st.l).1,eY c d st.os st.ks,(bB c.sz c.lb (au c k d st.os ms) st.bx st.l).2.1⟩ (bB c.sz c.lb (au c k d st.os ms) st.bx st.l).2.2 fp' _ ⟨d,ms,hd,hms,hpm,rise,rfl,rfl⟩ (LL.same qED r23) (cP.trans stA (cP.same fp' r23)) zC
  ⟨Wq,tb',tY,ur,u22 _ _ h21,(u21.trans u22) _ _ h20,r23 _ _ htb,r23 _ _ qD1,qDI.mono (aF.of r23)⟩ ⟨rise,fun o ho=>?_,by show os'.length<=40;lia,by show (bB _ _ _ _ _).1.length=_;rw[lG];exact so.bx,ksl,vO so.l⟩ (r23 _ _ hpr) (Us.free Kc) qBD (hes.mono fun _ _ z=>z.mono (aF.of r23)) (by lia)
 rcases cX.mp (hpm.mem_iff.mp ho) with z | z
 ·exact so.lt o (dq.mp z).1
 ·exact mlt o z
end
end Ru
namespace Ru
open PySem L2 mR oU tZ Ds yd jA
open mO (Al Dg Dj ie gA bh bj inter)
def Dx.dg(d:Dx):Dg:=⟨(d.room:Int),d.ev,d.g⟩
def wA(c:ig)(s:S4)(ev:Int):List Nat:=ie (gA c.od) (aA c.rs) s.os s.bx (c.ds.map Dx.dg) ev
theorem Sg(op bx:List Int)(room ev:Int):∀(ds:List Dg)(b k:Nat),mO.fst op bx room ev ds b=some k->k < b+ds.length
 | [],b,k,h=>by cases h
 | d :: ds,b,k,h=>by
  have h:(if mO.hit op bx room ev d=true then some b else mO.fst op bx room ev ds (b+1))=some k:=h
  rw[gC]
  split at h
  ·have:=oN h
   lia
  ·have:=Sg op bx room ev ds (b+1) k h
   lia
theorem qA9{c:ig}{s:S4}{ev:Int}{k:Nat}(h:k∈wA c s ev):k < c.ds.length:=by
 unfold wA ie at h
 obtain⟨r,hr,rfl⟩:=fO.mp h
 have h1:=(dq.mp (dq.mp hr).1).2
 obtain⟨k,hk⟩:=Option.isSome_iff_exists.mp h1
 rw[hk]
 show k < _
 unfold bj at hk
 split at hk
 ·have:=Sg _ _ _ _ _ _ _ hk
  rw[cM]at this
  lia
 ·cases hk
theorem Lg(c:ig)(s:S4)(ev:Int):(wA c s ev).length<=s.os.length:=by
 unfold wA ie bh
 rw[cM]
 exact Nat.le_trans (jh _ _) (jh _ _)
structure JOk(c:ig)(J:List Nat->List (List Nat)->Prop):Prop where
 may:∀ os ks,J os ks->∀ d∈c.ds,Ls c d os ks
 pass:∀(k:Nat)(s:S4)(es:List En)(s':S4),J s.os s.ks->vB c k s es s'->J s'.os s'.ks
inductive iI(c:ig)(s:S4):List Nat->List Nat->List En->S4->Prop where
 | nil:iI c s [] [] [] s
 | skip {ks lf:List Nat} {es:List En} {s1:S4} {k:Nat} {d:Dx}:iI c s ks lf es s1->c.ds[k]? = some d->inV (.int (d.room:Int)) (aB lf)=true->iI c s (ks++[k]) lf es s1
 | go {ks lf:List Nat} {es e1:List En} {s1 s2:S4} {k:Nat} {d:Dx}:iI c s ks lf es s1->c.ds[k]? = some d->inV (.int (d.room:Int)) (aB lf)=false->vB c k s1 e1 s2->iI c s (ks++[k]) (lf++outs e1) (es++e1) s2
def pY(c:ig)(ev:Int)(s:S4)(es:List En)(s':S4):Prop:=∃(lf:List Nat)(e2:List En),iI c s (wA c s ev) lf e2 s'/\es = .take ev :: e2
structure All(c:ig)(J:List Nat->List (List Nat)->Prop)(n:Nat):Prop where
 ok:vN c
 j:JOk c J
 g:∀ d∈c.ds,d.g.ok c.sz.length/\d.g.ht<=n
def HF(C:Addr)(n:Nat):Sp:=fun vs H Q _ => ∃(pc ps p:Addr)(c:ig)(ev:Int)(s:S4)(fp:List Addr)(J:List Nat->List (List Nat)->Prop),vs=[.ref pc,.ref ps,.int ev,.ref p]/\za H pc c/\All c J n/\dI H ps s/\pZ c s/\J s.os s.ks/\LL C H p fp c.lb s.l ∧
 ∀(t ps' pr:Addr)(rv:List V)(s':S4)(es:List En)(fp':List Addr)(H':Hp),pY c ev s es s'->J s'.os s'.ks->LL C H' p fp' c.lb s'.l->cP H H' fp fp'->H' t=some (.tup [.ref ps',.ref pr])->dI H' ps' s'->pZ c s'->H' pr=some (.lst rv)->H pr=none->pr ∉ fp'->Al (bw H') rv es->es.length<=40001->Q (.ref t) H'
theorem dgs{H:Hp}{dv:List V}{ds:List Dx}(x:Al (yX H) dv ds):Al (Dj H) dv (ds.map Dx.dg):=by
 induction x with
 | nil=>exact .nil
 | cons h _ ih=>
  obtain⟨a,gv,Sy,h1,h2,h3,h4⟩:=h
  exact .cons ⟨a,gv,_,_,_,h1,h2,h3⟩ ih
theorem V8(es:List En):(outs es).length<=es.length:=List.length_filterMap_le _ _
section
variable{P:Program}{w:World}{K:PySem.W.Frag}{mg:Str->Option Value}{base:Heap}{C:Addr}
theorem mZ:aN ["chart","stand","event","letters","now","record","left","door","told"] ["chart","stand","event","letters"] (aG Bs):=⟨rfl,rfl,rfl,by decide +kernel,rfl,by decide +kernel,by decide +kernel⟩
theorem VD{n m:Nat}{f g1 g2 g3:Addr}{fd d1 d2 d3:FuncData}(F:cZ K "turn" "turn" Bs f fd)
  (U3:aL P w K mg base aq m g1 d1 ["chart","stand","event"] (mO.pB n)) (Th:Binds K d1 ["chart","stand","event"] []) (Rx:KI K g1) (Rf:mg "chosen" = some (.ref g1))
  (U0:aL P w K mg base aq m g2 d2 ["chart","stand","door","letters"] (Dz C)) (Tg:Binds K d2 ["chart","stand","door","letters"] []) (Rr:KI K g2) (Ra:mg "passed" = some (.ref g2))
  (De:aL P w K mg base aq m g3 d3 ["record"] QB) (DN:Binds K d3 ["record"] []) (Cj:KI K g3) (CW:mg "rooms_left" = some (.ref g3)) :
  aL P w K mg base aq (m+1) f fd ["chart","stand","event","letters"] (HF C n):=by
 refine F.ok mZ (fun vs H Q E h=>?_) (fun cdv A outer s H vs Q E hr h=>?_)
 ·refine aK fun G_ g_=>?_
  obtain⟨pc,ps,p,c,ev,s,fp,J,rfl,_⟩:=h
  refine g_ ?_;clear g_
  rfl
 refine aK fun G_ g_=>?_
 obtain⟨pc,ps,p,c,ev,st,fp,J,rfl,hC,al,hS,so,js,hL,q⟩:=h
 refine g_ ?_;clear g_
 refine⟨_,(zE (zK (i:=4) mZ.nd rfl (Or.inl rfl) (pv 1))
  (zE (zK (i:=5) mZ.nd rfl (Or.inl rfl) (yK (zA (zW (zA zP (zA (pv 2) zD))) zD)))
  (zE (zK (i:=6) mZ.nd rfl (Or.inl rfl) (yK zD))
  (zZ (bN PassesOwn.never rfl (yM (zJ U3 hr rfl Rf Rx Th .nil yE (zA (pv 0) (zA (pv 1) (zA (pv 2) zD))))) (yJ (i:=7) mZ.nd rfl (Or.inl rfl))
  (zG (yD (zL du (yB zH (yB zH (yB zH (pv 0) zB (fun _ _=>rfl)) (pv 7) (fun _ _=>rfl)) zB (fun _ _=>rfl)) (pv 6) rfl)
  (zE (zK (i:=8) mZ.nd rfl (Or.inl rfl) (zJ U0 hr rfl Ra Rr Tg .nil yE (zA (pv 0) (zA (pv 4) (zA (pv 7) (zA (pv 3) zD))))))
  (zE (zK (i:=4) mZ.nd rfl (Or.inl rfl) (yB zH (pv 8) zB (fun _ _=>rfl)))
  (zE (yI (bz PySem.F.plainAttrs_list PySem.F.slot_list_extend PySem.F.type_list_extend jM (pv 5) (zA (yB zH (pv 8) zB (fun _ _=>rfl)) zD)))
  (zG (yI (bz PySem.F.plainAttrs_list PySem.F.slot_list_extend PySem.F.type_list_extend jM (pv 6) (zA (zJ De hr rfl CW Cj DN .nil yE (zA (yB zH (pv 8) zB (fun _ _=>rfl)) zD)) zD)))))))
  zT)))
  (zG (zO (zW (zA (pv 4) (zA (pv 5) zD))))))))),?_⟩
 refine⟨_,rfl,_,rfl,zI (by show 2<=1000;decide),fun p1 hp1=>⟨zI (by show 1<=1000;decide),fun pr hpr=>?_⟩⟩
 have u1:=zF hp1 (.tup [V.str ("take" : Str),V.int ev])
 have i1:upd H p1 (.tup [V.str ("take" : Str),V.int ev]) p1=some (.tup (En.take ev).row):=zC
 generalize upd H p1 (.tup [V.str ("take" : Str),V.int ev])=H1 at u1 i1 hpr ⊢
 have Kc:H pr=none:=u1.free hpr
 have u2:=zF hpr (.lst [V.ref p1])
 have i2:upd H1 pr (.lst [V.ref p1]) pr=some (.lst [V.ref p1]):=zC
 generalize upd H1 pr (.lst [V.ref p1])=H2 at u2 i2 ⊢
 refine⟨Nat.zero_le _,fun pl hpl=>?_⟩
 have Kd:H pl=none:=(u1.trans u2).free hpl
 have qBI:pr ≠ pl:=zM i2 hpl
 have u3:=zF hpl (.lst [])
 have i3:upd H2 pl (.lst []) pl=some (.lst (aB [])):=zC
 generalize upd H2 pl (.lst [])=H3 at u3 i3 ⊢
 have s3:=u1.trans (u2.trans u3)
 refine aK fun G_ g_=>?_
 obtain⟨pb,t,pd,x4,bv,dv,h1,h2,h3,h4,h5,h6,h7⟩:=id hC
 obtain⟨po,PX,pk,kv,e1,e2,e3,e4,e5⟩:=id hS
 refine g_ ?_;clear g_
 refine⟨fun σ' Hi => ∃(fu:Addr)(cg:List Addr)(rv:List V)(lf:List Nat)(es:List En)(si:S4)(o7 o8:Option V),σ'=[some (.ref pc),some (.ref ps),some (.int ev),some (.ref p),some (.ref fu),some (.ref pr),some (.ref pl),o7,o8]/\cP H Hi fp cg/\LL C Hi p cg c.lb si.l/\dI Hi fu si/\pZ c si/\J si.os si.ks/\iI c st (wA c st ev) lf es si/\Hi pr=some (.lst rv)/\pr ∉ cg/\Al (bw Hi) rv (.take ev :: es)/\es.length<=40000,?_,?_⟩
 ·refine⟨_,rfl,_,rfl,_,rfl,pc,ps,t,pd,po,PX,c.od,st.os,st.bx,c.rs,c.ds.map Dx.dg,dv,_,_,_,_,_,ev,rfl,s3 _ _ h1,h4.mono (aF.of s3),al.ok.good,al.ok.r40,s3 _ _ h6,dgs (h7.mono fun _ _ z=>z.mono (aF.of s3)),s3 _ _ e1,s3 _ _ e2,so.lt,so.inc,s3 _ _ e3,fun d hd=>?_,(by rw[cM];exact al.ok.d63),fun pq H4 s4 RC hpq=>?_⟩
  ·refine aK fun G_ g_=>?_
   obtain⟨x,hx,rfl⟩:=fO.mp hd
   refine g_ ?_;clear g_
   have:=al.g x hx
   rw[so.bx]
   exact this
  have s04:=s3.trans s4
  have qD7:pq ∉ fp:=LL.new hL (s3.free RC)
  have lch:=Lg c st ev
  have Hz:=so.Hz
  refine⟨pq,rfl,⟨_,aX.of hpq⟩,?_⟩
  refine dC (K:=K) (a:=pq) (xs:=aB (wA c st ev)) (fun i σ' Hi => ∃(fu:Addr)(cg:List Addr)(rv:List V)(lf:List Nat)(es:List En)(si:S4)(o7 o8:Option V),σ'=[some (.ref pc),some (.ref ps),some (.int ev),some (.ref p),some (.ref fu),some (.ref pr),some (.ref pl),o7,o8]/\cP H Hi fp cg/\Hi pq=some (.lst (aB (wA c st ev)))/\pq ∉ cg/\LL C Hi p cg c.lb si.l/\dI Hi fu si/\pZ c si/\J si.os si.ks/\iI c st ((wA c st ev).take i) lf es si/\Hi pr=some (.lst rv)/\pr ∉ cg/\Al (bw Hi) rv (.take ev :: es)/\es.length<=1000 * i/\Hi pl=some (.lst (aB lf))/\pl ∉ cg/\lf.length<=1000 * i)
   ⟨ps,fp,_,[],[],st,_,_,rfl,cP.same fp s04,hpq,qD7,LL.same hL s04,hS.mono (aF.of s04),so,js,.nil,s4 _ _ (u3 _ _ i2),LL.new hL Kc,.cons ⟨p1,rfl,s4 _ _ (u3 _ _ (u2 _ _ i1))⟩ .nil,bu _,s4 _ _ i3,LL.new hL Kd,bu _⟩ (fun i σ' Hi _ ⟨_,_,_,_,_,_,_,_,_,_,z,_⟩=>aX.of z) ?_ ?_
  ·rintro i x σ' Hi hx aP
   refine aK fun G_ g_=>?_
   obtain⟨fu,cg,rv,lf,es,si,o7,o8,rfl,U6,XF,nqi,hLi,hSi,Dl,ji,DR,vH,Mu,yu,lei,hli,nli,llf⟩:=aP
   obtain⟨hi,rfl⟩:=yR hx
   refine g_ ?_;clear g_
   have hk:=cj hi
   have hkl:=qA9 (fB hi)
   have pW:(wA c st ev).take (i+1)=(wA c st ev).take i++[(wA c st ev)[i]]:=by
    rw[gB,hk]
    rfl
   generalize (wA c st ev)[i]=k at pW hkl
   have hd:=cj hkl
   have hdm:=fB hkl
   generalize c.ds[k]=d at hd hdm
   have kt:=cP.keep U6 hL
   refine aK fun G_ g_=>?_
   obtain⟨v,hv,a,gv,Sy,rfl,y1,y2,y3⟩:=h7.get hd
   refine g_ ?_;clear g_
   refine⟨_,rfl,aD (aH.of (kt _ _ h1)) rfl ⟨_,rfl,aD (aH.of (kt _ _ h6)) (yQ hv) (aD (aH.of (kt _ _ y1)) rfl ⟨_,rfl,fW rfl (.inl (aX.of hli)) ⟨rfl,gq _,_,rfl,cW (fun z=>?_) (fun z=>?_)⟩⟩)⟩⟩
   ·have z2:inV (.int (d.room:Int)) (aB lf)=false:=by
     have:(!inV (.int (d.room:Int)) (aB lf))=true:=z
     simpa using this
    refine⟨_,rfl,_,rfl,_,rfl,_,rfl,pc,fu,p,c,k,_,si,cg,d,rfl,rfl,hC.mono kt,al.ok,hSi,Dl,hd,al.j.may _ _ ji d hdm,hLi,fun tt ps2 PQ qH s2 es2 xX H5 PR hL5 Gs htt Dr so5 GF IK qBD XJ le2=>?_⟩
    have k5:=cP.keep Gs hLi
    have BJ:=cP.apart Gs vH Mu
    have hl5:=cP.apart Gs hli nli
    have Kr:=cP.apart Gs XF nqi
    have qCT:=cP.trans U6 Gs
    have qDA:PQ ≠ pr:=fun z=>by rw[z,vH]at IK;cases IK
    have nell:PQ ≠ pl:=fun z=>by rw[z,hli]at IK;cases IK
    have qDC:pq ≠ pr:=fun z=>by
     have a1:=s04 pr
     rw[<-z]at Kc
     have:=s3.free RC
     exact absurd (s4 _ _ (u3 _ _ i2)) (by
      rw[<-z]
      intro y
      have n3:H3 pq=none:=RC
      rw[z,u3 _ _ i2]at n3
      cases n3)
    have qDD:pq ≠ pl:=fun z=>by
     have n3:H3 pq=none:=RC
     rw[z,i3]at n3
     cases n3
    have lA:=yu.length
    have lA2:=XJ.length
    rw[gC]at lA
    refine⟨_,rfl,aD (aH.of htt) rfl ?_⟩
    refine⟨_,rfl,.inl ⟨rfl,_,aX.of BJ.1⟩,_,rfl,aD (aH.of htt) rfl ⟨pr,PQ,_,_,rfl,rfl,BJ.1,GF,(by rw[sizeLine_eq];lia),?_⟩⟩
    have k6:=aF.lst BJ.1 (.lst (rv++qH))
    have st6:cP H (upd H5 pr (.lst (rv++qH))) fp xX:=cP.upd qCT Kc _
    have hL6:=LL.upd hL5 BJ.2 (.lst (rv++qH))
    have r6:upd H5 pr (.lst (rv++qH)) pr=some (.lst (rv++qH)):=zC
    have r6b:upd H5 pr (.lst (rv++qH)) PQ=some (.lst qH):=by
     rw[zQ qDA]
     exact GF
    have r6l:upd H5 pr (.lst (rv++qH)) pl=some (.lst (aB lf)):=by
     rw[zQ qBI.symm]
     exact hl5.1
    have r6q:upd H5 pr (.lst (rv++qH)) pq=some (.lst (aB (wA c st ev))):=by
     rw[zQ qDC]
     exact Kr.1
    generalize upd H5 pr (.lst (rv++qH))=H6 at k6 st6 hL6 r6 r6b r6l r6q ⊢
    refine⟨_,rfl,.inl ⟨rfl,_,aX.of r6l⟩,_,rfl,aD (aH.of (k6 _ _ htt)) rfl ⟨PQ,qH,es2,rfl,r6b,XJ.mono (fun _ _ z=>z.mono k6),le2,fun po7 H7 s7 npo7 qDW=>?_⟩⟩
    have lo:=V8 es2
    refine⟨pl,po7,_,_,rfl,rfl,s7 _ _ r6l,qDW,(by rw[zU,zU,sizeLine_eq];lia),?_⟩
    have k8:=aF.lst (s7 _ _ r6l) (.lst (aB lf++aB (outs es2)))
    have Fw:aF H5 (upd H7 pl (.lst (aB lf++aB (outs es2)))):=k6.trans ((aF.of s7).trans k8)
    refine⟨ps2,xX,rv++qH,lf++outs es2,es++es2,s2,_,_,rfl,cP.upd (cP.trans st6 (cP.same xX s7)) Kd _,?_,Kr.2,LL.upd (LL.same hL6 s7) hl5.2 _,Dr.mono Fw,so5,al.j.pass k si es2 s2 ji PR,?_,?_,BJ.2,Al.app (yu.mono fun _ _ z=>z.mono (k5.trans Fw)) (XJ.mono fun _ _ z=>z.mono Fw),by rw[dJ];lia,?_,hl5.2,by rw[dJ];lia⟩
    ·rw[zQ qDD]
     exact s7 _ _ r6q
    ·rw[pW]
     exact .go DR hd z2 PR
    ·rw[zQ qBI]
     exact s7 _ _ r6
    ·rw[zC]
     unfold aB
     rw[jH]
   ·have z2:inV (.int (d.room:Int)) (aB lf)=true:=by
     have:(!inV (.int (d.room:Int)) (aB lf))=false:=z
     simpa using this
    refine⟨fu,cg,rv,lf,es,si,_,_,rfl,U6,XF,nqi,hLi,hSi,Dl,ji,?_,vH,Mu,yu,by lia,hli,nli,by lia⟩
    rw[pW]
    exact .skip DR hd z2
  ·rintro σ' Hi aP
   refine aK fun G_ g_=>?_
   obtain⟨fu,cg,rv,lf,es,si,o7,o8,z1,z2,_,_,z3,z4,z5,z6,z7,z8,z9,z10,z11,_⟩:=aP
   refine g_ ?_;clear g_
   rw[zU]at z7 z11
   rw[List.take_length]at z7
   exact⟨fu,cg,rv,lf,es,si,o7,o8,z1,z2,z3,z4,z5,z6,z7,z8,z9,z10,by lia⟩
 rintro σ' Hi aP
 refine aK fun G_ g_=>?_
 obtain⟨fu,cg,rv,lf,es,si,o7,o8,rfl,U6,hLi,hSi,Dl,ji,DR,vH,Mu,yu,lei⟩:=aP
 refine g_ ?_;clear g_
 refine⟨_,rfl,_,rfl,zI (by show 2<=1000;decide),fun tt htt=>?_⟩
 have u9:=zF htt (.tup [V.ref fu,V.ref pr])
 exact q tt fu pr rv si _ cg _ ⟨lf,es,DR,rfl⟩ ji (LL.same hLi u9) (cP.trans U6 (cP.same cg u9)) zC (hSi.mono (aF.of u9)) Dl (u9 _ _ vH) Kc Mu (yu.mono fun _ _ z=>z.mono (aF.of u9)) (by rw[gC];lia)
end
end Ru
namespace Ru
open PySem L2 mR oU tZ Ds yd jA
open mO (Al)
structure Jw(c:ig)(os:List Nat)(ks:List (List Nat)):Prop where
 inc:os.Pairwise (· < ·)
 lt:∀ o∈os,o < c.rs.length
 len:ks.length=c.rs.length
 row:∀ r∈ks,(∀ g∈r,g < c.rs.length)/\r.length<=40
theorem Nk{rs:List Rm}{os:List Nat}{r g:Nat}(h:g∈iY rs os r):g∈os:=by
 unfold iY dj at h
 split at h
 ·exact (dq.mp (List.mem_of_mem_take h)).1
 ·exact (dq.mp (dq.mp h).1).1
theorem Nm(rs:List Rm)(os:List Nat)(r:Nat):(iY rs os r).length<=os.length:=by
 unfold iY dj
 have:=jh (fun o=>Tr.aJ (aA rs) o r) os
 split
 ·rw[dN]
  lia
 ·exact Nat.le_trans (jh _ _) this
theorem Fv{rs:List Rm}{os:List Nat}:∀(ls:List Nat)(ks:List (List Nat))(r:List Nat),r∈aj rs os ls ks->r∈ks ∨ ∃ x,r=iY rs os x
 | [],ks,r,h=>.inl h
 | x :: ls,ks,r,h=>by
  have h:r∈aj rs os ls (if bM rs x=("" : Str) then ks else ks.set x (iY rs os x)):=h
  rcases Fv ls _ r h with h | h
  ·split at h
   ·exact .inl h
   ·rcases List.mem_or_eq_of_mem_set h with h | h
    ·exact .inl h
    ·exact .inr ⟨x,h⟩
  ·exact .inr h
section
variable{c:ig}{os:List Nat}{ks:List (List Nat)}
theorem Jw.Y9(j:Jw c os ks)(ok:vN c):os.length<=40:=Nat.le_trans (Tr.cL _ _ (Tr.bK j.inc) j.lt) ok.r40
theorem Jw.kept(j:Jw c os ks)(ok:vN c)(d:Dx):(eY c d os ks).length=c.rs.length/\∀ r∈eY c d os ks,(∀ g∈r,g < c.rs.length)/\r.length<=40:=by
 unfold eY
 split
 ·exact⟨j.len,j.row⟩
 ·refine⟨by rw[sy];exact j.len,fun r hr=>?_⟩
  rcases Fv _ _ r hr with h | ⟨x,rfl⟩
  ·exact j.row r h
  ·exact⟨fun g hg=>j.lt g (Nk hg),Nat.le_trans (Nm _ _ _) (j.Y9 ok)⟩
theorem GK{n:Nat}(w:Wy)(ks:List (List Nat))(hw:w.gl < n)(hk:∀ r∈ks,(∀ g∈r,g < n)/\r.length<=40):(∀ g∈gP w ks,g < n)/\(gP w ks).length<=100:=by
 cases w with
 | to g=>exact⟨fun x hx=>by rw[cJ.mp hx];exact hw,by show 1<=100;decide⟩
 | stay=>exact⟨(fun x hx=>by cases hx),by show 0<=100;decide⟩
 | back g=>
  show (∀ x∈(if ks.getD g []=[] then [g] else ks.getD g []),x < n)/\(if ks.getD g []=[] then [g] else ks.getD g []).length<=100
  split
  ·exact⟨fun x hx=>by rw[cJ.mp hx];exact hw,by show 1<=100;decide⟩
  ·rename_i z
   by_cases q:g < ks.length
   ·have e:ks.getD g []=ks[g]:=by rw[jl,cj q];rfl
    have:=hk _ (fB q)
    rw[e]
    exact⟨this.1,by lia⟩
   ·exact absurd (by rw[jl,List.getElem?_eq_none (by lia)];rfl) z
theorem wJ{d:Dx}{k:Nat}(h:k∈bT c d os):k∈os/\k ∉ aO c d os:=by
 unfold bT at h
 obtain⟨h1,h2⟩:=dq.mp h
 rw[vK.t8]at h2
 exact⟨h1,by simpa using h2⟩
theorem Nz{d:Dx}{ms:List Nat}(h:qi c d ks ms){k:Nat}(hk:k∈bT c d os):k ∉ ms:=by
 intro hm
 obtain⟨h1,h2⟩:=wJ hk
 unfold qi at h
 split at h
 ·rw[h]at hm
  cases hm
 ·rename_i z
  refine h2 ?_
  unfold aO
  rw[if_neg z]
  unfold vK.gj
  rw[List.mem_reverse,dq]
  refine⟨h1,?_⟩
  have:=((h.2 k).mp hm).under
  cases hh:cG c d with
  | none=>rfl
  | some u=>
   rw[hh]at this
   exact this
theorem GD{d:Dx}{ms:List Nat}(h:qi c d ks ms):ms.Pairwise (· < ·):=by
 unfold qi at h
 split at h
 ·rw[h]
  exact .nil
 ·exact h.1
theorem J9(ok:vN c){d:Dx}{ms:List Nat}(h:qi c d ks ms):∀ k∈ms,k < c.rs.length:=by
 intro k hk
 unfold qi at h
 split at h
 ·rw[h]at hk
  cases hk
 ·have:=((h.2 k).mp hk).lt (by have:=ok.good.pos;lia)
  rw[yV]at this
  exact this
theorem Vn{d:Dx}{a b:List Nat}(h1:qi c d ks a)(h2:qi c d ks b):a=b:=by
 unfold qi at h1 h2
 split at h1
 ·rename_i z
  rw[if_pos z]at h2
  rw[h1,h2]
 ·rename_i z
  rw[if_neg z]at h2
  exact h1.unique h2
theorem wide(ok:vN c):JOk c (Jw c) where
 may:=fun os ks j d hd=>by
  have jk:=j.kept ok d
  have g:=GK d.way _ (ok.door d hd).2.1 jk.2
  refine⟨g.1,g.2,fun ms hms=>?_⟩
  have ml:=J9 ok hms
  have sl:∀ k∈bT c d os,k < c.rs.length:=fun k hk=>j.lt k (wJ hk).1
  have nd:(bT c d os++ms).Nodup:=List.nodup_append.mpr ⟨Tr.bK (j.inc.filter _),Tr.bK (GD hms),fun a ha b hb e=>Nz hms ha (by rw[e];exact hb)⟩
  refine⟨nd,Nat.le_trans (Tr.cL _ _ nd fun k hk=>?_) ok.r40,ml⟩
  rcases cX.mp hk with h | h
  ·exact sl k h
  ·exact ml k h
 pass:=fun k s es s' j ⟨d,ms,hd,hms,perm,rise,O8,_⟩=>by
  have jk:=j.kept ok d
  refine⟨rise,fun o ho=>?_,by rw[O8];exact jk.1,by rw[O8];exact jk.2⟩
  rcases cX.mp (perm.mem_iff.mp ho) with h | h
  ·exact j.lt o (wJ h).1
  ·exact J9 ok hms o h
theorem Ql{k:Nat}{s s1 s2:S4}{e1 e2:List En}(h1:vB c k s e1 s1)(h2:vB c k s e2 s2):e1=e2/\s1=s2:=by
 obtain⟨d,ms,hd,hm,p1,r1,k1,q1⟩:=h1
 obtain⟨d',ms',hd',hm',p2,r2,k2,q2⟩:=h2
 obtain rfl:d=d':=oN (hd.symm.trans hd')
 obtain rfl:=Vn hm hm'
 have eo:s1.os=s2.os:=cQ _ _ r1 r2 fun k=>by rw[p1.mem_iff,p2.mem_iff]
 have eq:=q1.trans q2.symm
 obtain⟨o1,b1,x1,l1⟩:=s1
 obtain⟨o2,b2,x2,l2⟩:=s2
 cases k1
 cases k2
 cases eo
 cases eq
 exact⟨rfl,rfl⟩
theorem O9{s:S4}{ks lf:List Nat}{es:List En}{s1:S4}(h1:iI c s ks lf es s1):∀ {ks' lf':List Nat} {es':List En} {s1':S4},iI c s ks' lf' es' s1'->ks=ks'->lf=lf'/\es=es'/\s1=s1':=by
 induction h1 with
 | nil=>
  intro ks' lf' es' s1' h2 e
  cases h2 with
  | nil=>exact⟨rfl,rfl,rfl⟩
  | skip h hd hi=>exact absurd e.symm (by simp)
  | go h hd hi hp=>exact absurd e.symm (by simp)
 | @skip ks lf es s1 k d h hd hi ih=>
  intro ks' lf' es' s1' h2 e
  cases h2 with
  | nil=>exact absurd e (by simp)
  | @skip ks2 _ _ _ k2 d2 h' hd' hi'=>
   obtain⟨ea,eb⟩:=List.append_inj' e rfl
   exact ih h' ea
  | @go ks2 lf2 es2 e2 s2 s3 k2 d2 h' hd' hi' hp'=>
   obtain⟨ea,eb⟩:=List.append_inj' e rfl
   obtain⟨rfl,rfl,rfl⟩:=ih h' ea
   cases eb
   obtain rfl:=oN (hd.symm.trans hd')
   rw[hi]at hi'
   cases hi'
 | @go ks lf es e1 s1 s2 k d h hd hi hp ih=>
  intro ks' lf' es' s1' h2 e
  cases h2 with
  | nil=>exact absurd e (by simp)
  | @skip ks2 _ _ _ k2 d2 h' hd' hi'=>
   obtain⟨ea,eb⟩:=List.append_inj' e rfl
   obtain⟨rfl,rfl,rfl⟩:=ih h' ea
   cases eb
   obtain rfl:=oN (hd.symm.trans hd')
   rw[hi]at hi'
   cases hi'
  | @go ks2 lf2 es2 e2 s2 s3 k2 d2 h' hd' hi' hp'=>
   obtain⟨ea,eb⟩:=List.append_inj' e rfl
   obtain⟨rfl,rfl,rfl⟩:=ih h' ea
   cases eb
   obtain⟨rfl,rfl⟩:=Ql hp hp'
   exact⟨rfl,rfl,rfl⟩
theorem Dw{ev:Int}{s s1 s2:S4}{e1 e2:List En}(h1:pY c ev s e1 s1)(h2:pY c ev s e2 s2):e1=e2/\s1=s2:=by
 obtain⟨lf,x,d1,rfl⟩:=h1
 obtain⟨lf',x',d2,rfl⟩:=h2
 obtain⟨_,rfl,rfl⟩:=O9 d1 d2 rfl
 exact⟨rfl,rfl⟩
end
end Ru
namespace mO
open PySem L2 mR oU tZ
def gG:Sp:=fun vs H Q _ => ∃(t:Addr)(rs:List Rm)(a b:Int)(one other:Nat),vs=[.ref t,.int a,.int b]/\a=(one:Int)/\b=(other:Int)/\cD H t rs/\rs.length<=1000/\one < rs.length/\other < rs.length/\Q (.bl (Tr.aJ (aA rs) one other)) H
theorem xN{ds:List Int}{a b:Nat}:Tr.aJ ds a b=true ↔ b < a/\∀ j,b < j->j<=a->ds.getD b 0 < ds.getD j 0:=by
 unfold Tr.aJ
 rw[List.contains_iff_mem]
 exact Tr.qM a b
section
variable{P:Program}{w:World}{K:PySem.W.Frag}{mg:Str->Option Value}{base:Heap}
theorem ue:aN ["_law_rooms_here","_law_one","_law_other","_law_k"] ["_law_rooms_here","_law_one","_law_other"] (aG K8):=⟨rfl,rfl,rfl,by decide +kernel,rfl,by decide +kernel,by decide +kernel⟩
theorem Qy{f:Addr}{fd:FuncData}(F:cZ K "_law_lies" "_law_lies" K8 f fd)(aZ:mg "range" = none):aL P w K mg base aq 1 f fd ["_law_rooms_here","_law_one","_law_other"] gG:=by
 refine F.ok ue (fun vs H Q E h=>?_) (fun cdv A outer s H vs Q E hr h=>?_)
 ·refine aK fun G_ g_=>?_
  obtain⟨t,rs,a,b,one,other,rfl,_⟩:=h
  refine g_ ?_;clear g_
  rfl
 refine aK fun G_ g_=>?_
 obtain⟨t,rs,a,b,one,other,rfl,rfl,rfl,hR,h1000,h1,h2,q⟩:=h
 refine g_ ?_;clear g_
 refine⟨_,(zE (yD (zL Wu (pv 2) (pv 1) (zR _))
  (zG (zO gU))
  zT)
  (zZ (bN PassesOwn.never rfl (qI rfl aZ (zA (yC yF (pv 2) zB) (zA (yC yF (pv 1) zB) zD))) (yJ (i:=3) ue.nd rfl (Or.inl rfl))
  (zG (yD (zL Qo (yB zH (yB zH (pv 0) (pv 3) (fun _ _=>rfl)) zB (fun _ _=>rfl)) (yB zH (yB zH (pv 0) (pv 2) (fun _ _=>rfl)) zB (fun _ _=>rfl)) (zR _))
  (zG (zO gU))
  zT)))
  (zG (zO gU)))),?_⟩
 refine⟨_,rfl,_,rfl,bF ⟨_,rfl,oZ (fun c=>?_) (fun c=>?_)⟩⟩
 ·have c':=of_decide_eq_true c
  have e:Tr.aJ (aA rs) one other=false:=by
   rw[Bool.eq_false_iff]
   intro z
   have:=(xN.mp z).1
   lia
  rw[e]at q
  exact q
 have c':other < one:=by
  have:¬ (other:Int) ≥ (one:Int):=fun z=>c (decide_eq_true z)
  lia
 refine aK fun G_ g_=>?_
 obtain⟨vs,a,r,ht,hl,hr0,hat,ha⟩:=hR.at h2
 refine g_ ?_;clear g_
 have ed:=cI hr0
 refine⟨fun σ' H'=>H'=H/\(∀ j,other < j->j<=one->(aA rs).getD other 0 < (aA rs).getD j 0),?_,?_⟩
 ·refine⟨_,rfl,bF ⟨_,rfl,bF ⟨_,_,rfl,⟨by lia,by lia,by lia,by lia⟩,?_⟩⟩⟩
  refine bR (fun i σ' H'=>H'=H/\(∀ j,other < j->j < other+1+i->(aA rs).getD other 0 < (aA rs).getD j 0)/\∃ o3:Option V,σ'=[some (.ref t),some (.int (one:Int)),some (.int (other:Int)),o3]) ⟨rfl,fun j j1 j2=>by lia,none,rfl⟩ ?_ ?_
  ·rintro i σ' H' hi aP
   refine aK fun G_ g_=>?_
   obtain⟨rfl,hin,o3,rfl⟩:=aP
   have hj:other+1+i < rs.length:=by lia
   obtain⟨vs2,a2,r2,uy,hl2,hr2,rD,ha2⟩:=hR.at hj
   refine g_ ?_;clear g_
   rw[ht]at uy
   cases uy
   have Sx:=cI hr2
   have ej:(other:Int)+1+(i:Int)=((other+1+i:Nat):Int):=by lia
   refine⟨_,rfl,_,rfl,t,vs,_,_,rfl,rfl,aH.of ht,(by rw[ej];exact rD),aD (aH.of ha2) rfl ⟨_,rfl,_,rfl,t,vs,_,_,rfl,rfl,aH.of ht,hat,aD (aH.of ha) rfl (bF ⟨_,rfl,?_⟩)⟩⟩
   refine oZ (fun c=>?_) (fun c=>?_)
   ·have c2:=of_decide_eq_true c
    have e:Tr.aJ (aA rs) one other=false:=by
     rw[Bool.eq_false_iff]
     intro z
     have:=(xN.mp z).2 (other+1+i) (by lia) (by lia)
     rw[ed,Sx]at this
     lia
    rw[e]at q
    exact q
   ·have c2:¬ r2.depth<=r.depth:=fun z=>c (decide_eq_true z)
    refine⟨rfl,fun j j1 j2=>?_,_,rfl⟩
    by_cases y:j=other+1+i
    ·rw[y,Sx,ed]
     lia
    ·exact hin j j1 (by lia)
  ·rintro σ' H' aP
   refine aK fun G_ g_=>?_
   obtain⟨rfl,hin,o3,rfl⟩:=aP
   refine g_ ?_;clear g_
   exact⟨rfl,fun j j1 j2=>hin j j1 (by lia)⟩
 rintro σ' H' ⟨rfl,hin⟩
 rw[xN.mpr ⟨c',hin⟩]at q
 exact q
end
end mO
namespace Tr
theorem sU{ds:List Int}(g:Good ds){j k:Nat}(hj:j < ds.length):par ds j=some k ↔ aJ ds j k=true/\ds.getD j 0=ds.getD k 0+1:=by
 have li:aJ ds j k=true ↔ k < j/\∀ i,k < i->i<=j->ds.getD k 0 < ds.getD i 0:=by
  unfold aJ
  rw[List.contains_iff_mem]
  exact qM j k
 rw[jt,li]
 constructor
 ·rintro⟨h1,h2,h3⟩
  refine⟨⟨h1,fun i i1 i2=>?_⟩,?_⟩
  ·by_cases z:i=j
   ·rw[z]
    exact h2
   ·have:=h3 i i1 (by lia)
    lia
  ·have n:=g.next k (by lia)
   by_cases z:k+1=j
   ·rw[z]at n
    lia
   ·have:=h3 (k+1) (by lia) (by lia)
    lia
 ·rintro⟨⟨h1,h2⟩,h3⟩
  refine⟨h1,by lia,fun i i1 i2=>?_⟩
  have:=h2 i i1 (by lia)
  lia
theorem Nh{ds:List Int}(g:Good ds)(r:Nat):((List.range ds.length).filter fun k=>aJ ds k r).filter (fun k=>decide (ds.getD k 0=ds.getD r 0+1))=kids ds r:=by
 unfold kids dZ
 rw[List.filter_filter]
 refine List.filter_congr fun k hk=>?_
 have hk:=List.mem_range.mp hk
 rw[Bool.eq_iff_iff,Bool.and_eq_true,beq_iff_eq,sU g hk,decide_eq_true_iff]
 exact⟨fun z=>⟨z.2,z.1⟩,fun z=>⟨z.2,z.1⟩⟩
theorem gone_some{ds:List Int}{al:Nat->Bool}{gs:List Nat}{p x:Nat}:eZ ds al gs (some p) x ↔ ∃ k∈next ds al gs p,x=k ∨ eZ ds al gs (some k) x:=by
 constructor
 ·intro h
  generalize hu:some p=un at h
  induction h with
  | top e=>rw[<-hu]at e;cases e
  | @root p' k hk e=>
   rw[<-hu]at e
   injection e with e
   subst e
   exact⟨k,hk,.inl rfl⟩
  | @low p' k hk _ ih=>
   obtain⟨k',hk',h⟩:=ih
   refine⟨k',hk',.inr ?_⟩
   rcases h with rfl | h
   ·exact .root hk rfl
   ·exact .low hk h
 ·rintro⟨k,hk,h⟩
  have hk':eZ ds al gs (some p) k:=.root hk rfl
  rcases h with rfl | h
  ·exact hk'
  ·generalize hu:some k=un at h
   induction h with
   | top e=>rw[<-hu]at e;cases e
   | @root p' q hq e=>
    rw[<-hu]at e
    injection e with e
    subst e
    exact .low hq hk'
   | @low p' q hq _ ih=>exact .low hq ih
theorem gone_none{ds:List Int}{al:Nat->Bool}{gs:List Nat}{x:Nat}:eZ ds al gs none x ↔ x=0 ∨ eZ ds al gs (some 0) x:=by
 constructor
 ·intro h
  generalize hu:(none:Option Nat)=un at h
  induction h with
  | top e=>exact .inl rfl
  | @root p' k hk e=>rw[<-hu]at e;cases e
  | @low p' k hk _ ih=>
   rcases ih with rfl | h
   ·exact .inr (.root hk rfl)
   ·exact .inr (.low hk h)
 ·rintro (rfl | h)
  ·exact .top rfl
  ·generalize hu:some 0=un at h
   induction h with
   | top e=>rw[<-hu]at e;cases e
   | @root p' q hq e=>
    rw[<-hu]at e
    injection e with e
    subst e
    exact .low hq (.top rfl)
   | @low p' q hq _ ih=>exact .low hq ih
theorem sr{ds:List Int}{p a b x:Nat}(ha:par ds a=some p)(hb:par ds b=some p)(lt:a < b)(hx:x=a ∨ aJ ds x a=true):x < b:=by
 rcases hx with rfl | hx
 ·exact lt
 ·refine Classical.byContradiction fun z=>?_
  unfold aJ at hx
  rw[List.contains_iff_mem]at hx
  obtain⟨h1,h2⟩:=(qM x a).mp hx
  obtain⟨a1,a2,a3⟩:=jt.mp ha
  obtain⟨b1,b2,b3⟩:=jt.mp hb
  have h:=h2 b lt (by lia)
  have:=b3 a a1 lt
  lia
end Tr
namespace Ru
open PySem L2 mR oU tZ Ds yd jA
open mO (Al gG)
theorem uU{K:PySem.W.Frag}{H:Hp}{p:Addr}{L:List Nat}(hp:H p=some (.lst (aB L)))(hl:L.length<=1000)(f:Nat->Bool){cs:St}{tc:TT}{te:TE}{Z:List V->Hp->Prop}
  (h1:∀ o∈L,∀ Zb:Bool->Hp->Prop,Zb (f o) H->tc (some (.int (o:Int)) :: cs) H Zb) (h2:∀(o:Nat)(Zv:V->Hp->Prop),Zv (.int (o:Int)) H->te (some (.int (o:Int)) :: cs) H Zv) (h3:Z (aB (L.filter f)) H):fP (WY K p) cs tc te H Z:=by
 refine yS (K:=K) (a:=p) (xs:=aB L) (fun i acc H'=>H'=H/\acc=aB ((L.take i).filter f)) ⟨rfl,rfl⟩ (fun i acc H' z=>by rw[z.1];exact aX.of hp) ?_ ?_
 ·rintro i y acc H' hy ⟨rfl,rfl⟩
  obtain⟨hi,rfl⟩:=yR hy
  have hk:=cj hi
  have hm:=fB hi
  generalize L[i]=o at hk hm
  have ll:((L.take i).filter f).length<=1000:=by
   have:=jh f (L.take i)
   rw[dN]at this
   lia
  refine h1 o hm _ ?_
  cases hf:f o with
  | true=>
   refine vG rfl (h2 o _ ⟨?_,rfl,?_⟩)
   ·rw[zU,sizeLine_eq]
    lia
   ·rw[bH hk,hf]
    unfold aB
    rw[jH]
    rfl
  | false=>
   refine uQ rfl ⟨rfl,?_⟩
   rw[bH hk,hf]
   exact (congrArg aB (dM _)).symm
 ·rintro acc H' ⟨rfl,rfl⟩
  rw[zU,tW (bu _)]
  exact h3
theorem JP{H:Hp}{n:Nat}(hn:n<=1000)(f:Nat->Bool){cs:St}{tc:TT}{te:TE}{Z:List V->Hp->Prop}
  (h1:∀ o < n,∀ Zb:Bool->Hp->Prop,Zb (f o) H->tc (some (.int (0+(o:Int))) :: cs) H Zb) (h2:∀(o:Nat)(Zv:V->Hp->Prop),Zv (.int (0+(o:Int))) H->te (some (.int (0+(o:Int))) :: cs) H Zv) (h3:Z (aB ((List.range n).filter f)) H):fP (WX 0 n) cs tc te H Z:=by
 refine nu (fun i acc H'=>H'=H/\acc=aB ((List.range i).filter f)) ⟨rfl,rfl⟩ ?_ ?_
 ·rintro i acc H' hi ⟨rfl,rfl⟩
  have es:(List.range (i+1)).filter f=(List.range i).filter f++(if f i=true then [i] else []):=by
   rw[List.range_succ,List.filter_append,List.filter_cons]
   rfl
  have ll:((List.range i).filter f).length<=1000:=by
   have:=jh f (List.range i)
   rw[List.length_range]at this
   lia
  refine h1 i hi _ ?_
  cases hf:f i with
  | true=>
   refine vG rfl (h2 i _ ⟨?_,rfl,?_⟩)
   ·rw[zU,sizeLine_eq]
    lia
   ·rw[es,hf,Int.zero_add]
    unfold aB
    rw[jH]
    rfl
  | false=>
   refine uQ rfl ⟨rfl,?_⟩
   rw[es,hf]
   exact (congrArg aB (dM _)).symm
 ·rintro acc H' ⟨rfl,rfl⟩
  exact h3
def rJ:Sp:=fun vs H Q _ => ∃(t:Addr)(rs:List Rm)(ir:Int)(room:Nat),vs=[.ref t,.int ir]/\ir=(room:Int)/\cD H t rs/\Tr.Good (aA rs)/\rs.length<=40/\room < rs.length/\∀(p:Addr)(H':Hp),aM H H'->H p=none->H' p=some (.lst (aB (Tr.kids (aA rs) room)))->Q (.ref p) H'
section
variable{P:Program}{w:World}{K:PySem.W.Frag}{mg:Str->Option Value}{base:Heap}
theorem uf:aN ["_law_rooms_here","_law_room","_law_inside"] ["_law_rooms_here","_law_room"] (aG lJ):=⟨rfl,rfl,rfl,by decide +kernel,rfl,by decide +kernel,by decide +kernel⟩
theorem Qz{m:Nat}{f gl:Addr}{fd dl:FuncData}(F:cZ K "_law_kids" "_law_kids" lJ f fd)
  (eV:aL P w K mg base aq m gl dl ["_law_rooms_here","_law_one","_law_other"] gG) (eU:Binds K dl ["_law_rooms_here","_law_one","_law_other"] []) (eG:KI K gl) (eF:mg "_law_lies" = some (.ref gl)) (aZ:mg "range" = none) (aY:mg "len" = none) :
  aL P w K mg base aq (m+1) f fd ["_law_rooms_here","_law_room"] rJ:=by
 refine F.ok uf (fun vs H Q E h=>?_) (fun cdv A outer s H vs Q E hr h=>?_)
 ·refine aK fun G_ g_=>?_
  obtain⟨t,rs,ir,room,rfl,_⟩:=h
  refine g_ ?_;clear g_
  rfl
 refine aK fun G_ g_=>?_
 obtain⟨t,rs,ir,room,rfl,rfl,hR,good,lg,hroom,q⟩:=h
 refine g_ ?_;clear g_
 refine⟨_,(zE (iJ (i:=2) (bY:=[(0,"_law_rooms_here"),(1,"_law_room")]) rfl uf.nd rfl (Or.inl rfl) (show bQ (aG lJ) ["_law_rooms_here","_law_room","_law_inside"] _ _ _ from ⟨rfl,rfl,by decide +kernel,by decide +kernel,by decide +kernel,by decide +kernel,by decide +kernel⟩) (bV rfl aZ (zA (zS zN rfl aY PySem.boot_len (zA (pv 0) zD)) zD)) (fun _ _ _ _ _ _=>bU (c7 (zJ eV hr rfl eF eG eU .nil yE (zA (pv 1) (zA (pv 0) (zA (pv 2) zD)))))) (fun _ _ _ _ _ _=>(pv 0)))
  (zG (zO (yT (bY:=[(0,"_law_rooms_here"),(1,"_law_room")]) rfl (show bQ (aG lJ) ["_law_rooms_here","_law_room","_law_inside"] _ _ _ from ⟨rfl,rfl,by decide +kernel,by decide +kernel,by decide +kernel,by decide +kernel,by decide +kernel⟩) (yM (pv 2)) (fun _ _ _ _ _ _=>bU (zL (r:=rEq) yG (yB (r:=fj K) zH (yB (r:=fj K) zH (pv 1) (pv 0) (fun _ _=>rfl)) zB (fun _ _=>rfl)) (yC yF (yB (r:=fj K) zH (yB (r:=fj K) zH (pv 1) (pv 2) (fun _ _=>rfl)) zB (fun _ _=>rfl)) zB) (zR _))) (fun _ _ _ _ _ _=>(pv 0)))))),?_⟩
 refine aK fun G_ g_=>?_
 obtain⟨rv,ht,hrs⟩:=id hR
 refine g_ ?_;clear g_
 have X3:=hrs.length
 have ld:=yV rs
 refine⟨_,rfl,fW rfl (.inr (aH.of ht)) ⟨_,rfl,by lia,by lia,?_⟩⟩
 refine JP (by rw[Du];lia) (fun k=>Tr.aJ (aA rs) k room) (fun o ho Zb hz=>?_) (fun o Zv hz=>⟨_,rfl,hz⟩) (fun pi hpi=>?_)
 ·rw[Du]at ho
  exact⟨_,rfl,_,rfl,_,rfl,t,rs,_,_,o,room,rfl,by lia,rfl,hR,by lia,by lia,hroom,_,rfl,hz⟩
 have u1:=zF hpi (.lst (aB ((List.range (rv.length:Int).toNat).filter fun k=>Tr.aJ (aA rs) k room)))
 have i1:upd H pi (.lst (aB ((List.range (rv.length:Int).toNat).filter fun k=>Tr.aJ (aA rs) k room))) pi=some (.lst (aB ((List.range (aA rs).length).filter fun k=>Tr.aJ (aA rs) k room))):=by
  rw[zC,Du,X3,ld]
 generalize upd H pi (.lst (aB ((List.range (rv.length:Int).toNat).filter fun k=>Tr.aJ (aA rs) k room)))=H1 at u1 i1 ⊢
 refine⟨_,rfl,pi,rfl,⟨_,aX.of i1⟩,?_⟩
 have ll:((List.range (aA rs).length).filter fun k=>Tr.aJ (aA rs) k room).length<=1000:=by
  have:=jh (fun k=>Tr.aJ (aA rs) k room) (List.range (aA rs).length)
  rw[List.length_range]at this
  lia
 refine uU i1 ll (fun k=>decide (V.int ((aA rs).getD k 0)=V.int ((aA rs).getD room 0+1))) (fun o ho Zb hz=>?_) (fun o Zv hz=>⟨_,rfl,hz⟩) (fun pk Cr=>?_)
 ·have ho':o < rs.length:=by
   have:=List.mem_range.mp (dq.mp ho).1
   lia
  refine aK fun G_ g_=>?_
  obtain⟨vs,a1,r1,ht1,_,hr1,Vs,ha1⟩:=hR.at ho'
  obtain⟨vs2,a2,r2,uy,_,hr2,rD,ha2⟩:=hR.at hroom
  refine g_ ?_;clear g_
  rw[ht]at ht1 uy
  injection ht1 with z1
  injection z1 with z1
  injection uy with z2
  injection z2 with z2
  subst z1
  subst z2
  rw[cI hr1,cI hr2]at hz
  exact⟨_,rfl,_,rfl,aD (aH.of (u1 _ _ ht)) Vs (aD (aH.of (u1 _ _ ha1)) rfl ⟨_,rfl,_,rfl,aD (aH.of (u1 _ _ ht)) rD (aD (aH.of (u1 _ _ ha2)) rfl (bF ⟨rfl,_,rfl,hz⟩))⟩)⟩
 have ef:∀ L:List Nat,L.filter (fun k=>decide (V.int ((aA rs).getD k 0)=V.int ((aA rs).getD room 0+1)))=L.filter fun k=>decide ((aA rs).getD k 0=(aA rs).getD room 0+1):=fun L=>List.filter_congr fun k _=>decide_eq_decide.mpr ⟨fun z=>by injection z,fun z=>by rw[z]⟩
 rw[ef,Tr.Nh good]
 exact q pk _ (u1.trans (zF Cr _)) (u1.free Cr) zC
end
end Ru
namespace Tr
structure OpF(ds:List Int)(al:Nat->Bool)(room:Nat)(L:List Nat):Prop where
 rise:L.Pairwise (· < ·)
 own:room∈L
 ins:∀ x∈L,x=room ∨ aJ ds x room=true
 lt:∀ x∈L,x < ds.length
 up:∀ x∈L,x ≠ room->∃ p∈L,par ds x=some p
 all:∀ r∈L,al r=true->∀ k∈kids ds r,k∈L
 one:∀ r∈L,al r=false->kids ds r ≠ []->∃ k∈kids ds r,k∈L/\∀ j∈kids ds r,j∈L->j=k
theorem Kh{ds:List Int}{x p r:Nat}(h:par ds x=some p)(hp:p=r ∨ aJ ds p r=true):aJ ds x r=true:=by
 rw[iW h]
 rcases hp with rfl | hp
 ·simp
 ·rw[hp,Bool.or_true]
theorem BX{ds:List Int}{p a b x:Nat}(ha:par ds a=some p)(hb:par ds b=some p)(xa:x=a ∨ aJ ds x a=true)(xb:x=b ∨ aJ ds x b=true):a=b:=by
 refine Classical.byContradiction fun ne=>?_
 have ge:∀ {c y:Nat},(y=c ∨ aJ ds y c=true)->c<=y:=fun {c y} h=>by
  rcases h with rfl | h
  ·exact bu _
  ·unfold aJ at h
   exact Nat.le_of_lt (ou (List.contains_iff_mem.mp h))
 rcases Nat.lt_or_ge a b with z | z
 ·have:=sr ha hb z xa
  have:=ge xb
  lia
 ·have:=sr hb ha (by lia) xb
  have:=ge xa
  lia
structure Pj(ds:List Int)(al:Nat->Bool)(room:Nat)(ks:List Nat)(L:List Nat):Prop where
 rise:L.Pairwise (· < ·)
 mem:∀ x,x∈L->x=room ∨ ∃ k∈ks,x=k ∨ aJ ds x k=true
 own:room∈L
 lt:∀ x∈L,x < ds.length
 UJ:∀ k∈ks,k∈L
 up:∀ x∈L,x ≠ room->∃ p∈L,par ds x=some p
 all:∀ r∈L,r ≠ room->al r=true->∀ k∈kids ds r,k∈L
 one:∀ r∈L,r ≠ room->al r=false->kids ds r ≠ []->∃ k∈kids ds r,k∈L/\∀ j∈kids ds r,j∈L->j=k
theorem Pj.base{ds:List Int}(al:Nat->Bool){room:Nat}(h:room < ds.length):Pj ds al room [] [room] where
 rise:=List.pairwise_singleton _ _
 mem:=fun x hx=>.inl (cJ.mp hx)
 own:=cJ.mpr rfl
 lt:=fun x hx=>by rw[cJ.mp hx];exact h
 UJ:=fun k hk=>by cases hk
 up:=fun x hx ne=>absurd (cJ.mp hx) ne
 all:=fun r hr ne=>absurd (cJ.mp hr) ne
 one:=fun r hr ne=>absurd (cJ.mp hr) ne
theorem Pj.step{ds:List Int}{al:Nat->Bool}{room kid:Nat}{ks L Lk:List Nat}(h:Pj ds al room ks L)(g:OpF ds al kid Lk)(pk:par ds kid=some room)(hn:∀ k∈ks,k < kid/\par ds k=some room):Pj ds al room (ks++[kid]) (L++Lk):=by
 have rk:=eX pk
 have gek:∀ y∈Lk,kid<=y:=fun y hy=>by
  rcases g.ins y hy with rfl | z
  ·exact bu _
  ·unfold aJ at z
   exact Nat.le_of_lt (ou (List.contains_iff_mem.mp z))
 have ltk:∀ x∈L,x < kid:=fun x hx=>by
  rcases h.mem x hx with rfl | ⟨k,hk,z⟩
  ·exact rk
  ·exact sr (hn k hk).2 pk (hn k hk).1 z
 -- a kid of what is met in L stands in L or nowhere,but for the room itself;the same in Lk
 have kL:∀ r∈L,r ≠ room->∀ j∈kids ds r,j ∉ Lk:=fun r hr ne j hj hjk=>by
  have pj:=(bC.mp hj).2
  rcases h.mem r hr with z | ⟨k,hk,z⟩
  ·exact ne z
  ·have e:=BX (hn k hk).2 pk (x:=j) (.inr (Kh pj z)) (g.ins j hjk)
   have:=(hn k hk).1
   lia
 have kK:∀ r∈Lk,∀ j∈kids ds r,j ∉ L:=fun r hr j hj hjl=>by
  have pj:=(bC.mp hj).2
  have:=gek r hr
  have:=eX pj
  have:=ltk j hjl
  lia
 refine⟨List.pairwise_append.mpr ⟨h.rise,g.rise,fun a ha b hb=>?_⟩,fun x hx=>?_,List.mem_append_left _ h.own,fun x hx=>?_,fun k hk=>?_,fun x hx ne=>?_,fun r hr ne ha k hk=>?_,fun r hr ne ha hk=>?_⟩
 ·have:=ltk a ha
  have:=gek b hb
  lia
 ·rcases cX.mp hx with z | z
  ·rcases h.mem x z with y | ⟨k,hk,y⟩
   ·exact .inl y
   ·exact .inr ⟨k,List.mem_append_left _ hk,y⟩
  ·exact .inr ⟨kid,List.mem_append_right _ (cJ.mpr rfl),g.ins x z⟩
 ·rcases cX.mp hx with z | z
  ·exact h.lt x z
  ·exact g.lt x z
 ·rcases cX.mp hk with z | z
  ·exact List.mem_append_left _ (h.UJ k z)
  ·rw[cJ.mp z]
   exact List.mem_append_right _ g.own
 ·rcases cX.mp hx with z | z
  ·obtain⟨p,hp,e⟩:=h.up x z ne
   exact⟨p,List.mem_append_left _ hp,e⟩
  ·by_cases y:x=kid
   ·rw[y]
    exact⟨room,List.mem_append_left _ h.own,pk⟩
   ·obtain⟨p,hp,e⟩:=g.up x z y
    exact⟨p,List.mem_append_right _ hp,e⟩
 ·rcases cX.mp hr with z | z
  ·exact List.mem_append_left _ (h.all r z ne ha k hk)
  ·exact List.mem_append_right _ (g.all r z ha k hk)
 ·rcases cX.mp hr with z | z
  ·obtain⟨k,k1,k2,k3⟩:=h.one r z ne ha hk
   refine⟨k,k1,List.mem_append_left _ k2,fun j j1 j2=>?_⟩
   rcases cX.mp j2 with y | y
   ·exact k3 j j1 y
   ·exact absurd y (kL r z ne j j1)
  ·obtain⟨k,k1,k2,k3⟩:=g.one r z ha hk
   refine⟨k,k1,List.mem_append_right _ k2,fun j j1 j2=>?_⟩
   rcases cX.mp j2 with y | y
   ·exact absurd y (kK r z j j1)
   ·exact k3 j j1 y
theorem Pj.done{ds:List Int}{al:Nat->Bool}{room:Nat}{ks L:List Nat}(h:Pj ds al room ks L)(sub:∀ k∈ks,k∈kids ds room)(ha:al room=true->ks=kids ds room)(ho:al room=false->kids ds room ≠ []->∃ k,ks=[k]):OpF ds al room L where
 rise:=h.rise
 own:=h.own
 ins:=fun x hx=>by
  rcases h.mem x hx with z | ⟨k,hk,z⟩
  ·exact .inl z
  ·have pk:=(bC.mp (sub k hk)).2
   have lk:aJ ds k room=true:=Kh pk (.inl rfl)
   rcases z with rfl | z
   ·exact .inr lk
   ·right
    unfold aJ at z lk ⊢
    rw[List.contains_iff_mem]at z lk ⊢
    rw[qM]at z lk ⊢
    refine⟨by lia,fun j j1 j2=>?_⟩
    by_cases y:j<=k
    ·exact lk.2 j j1 y
    ·have a:=z.2 j (by lia) j2
     have b:=lk.2 k lk.1 (bu _)
     lia
 lt:=h.lt
 up:=h.up
 all:=fun r hr hal k hk=>by
  by_cases z:r=room
  ·subst z
   rw[<-ha hal]at hk
   exact h.UJ k hk
  ·exact h.all r hr z hal k hk
 one:=fun r hr hal hne=>by
  by_cases z:r=room
  ·subst z
   obtain⟨k,hk⟩:=ho hal hne
   refine⟨k,sub k (by rw[hk];exact cJ.mpr rfl),h.UJ k (by rw[hk];exact cJ.mpr rfl),fun j j1 j2=>?_⟩
   have pj:=(bC.mp j1).2
   have lj:=eX pj
   rcases h.mem j j2 with y | ⟨k',hk',y⟩
   ·lia
   ·have e:k'=k:=by
     rw[hk]at hk'
     exact cJ.mp hk'
    have pk:=(bC.mp (sub k' hk')).2
    rw[<-e]
    exact (BX pk pj (x:=j) y (.inl rfl)).symm
  ·exact h.one r hr z hal hne
theorem OpF.full{ds:List Int}{on al:Nat->Bool}{L:List Nat}(h:OpF ds al 0 L)(fit:∀ k p,k < ds.length->par ds k=some p->(al p=true ∨ on p=true))(hon:∀ p,on p=true->kids ds p ≠ [])(hx:∀ p,on p=true->al p=false):jC ds on al L:=by
 refine⟨h.rise,fun r hr=>?_,h.own⟩
 unfold want dW
 by_cases ro:r∈L
 ·rw[decide_eq_true ro,Bool.true_and,Bool.true_and]
  by_cases ra:al r=true
  ·rw[if_pos ra,List.filter_eq_self.mpr fun k hk=>decide_eq_true (h.all r ro ra k hk)]
  ·have ra':al r=false:=by simpa using ra
   rw[if_neg ra]
   by_cases rn:on r=true
   ·rw[if_pos rn]
    obtain⟨k,k1,k2,k3⟩:=h.one r ro ra' (hon r rn)
    have e:(kids ds r).filter (fun j=>decide (j∈L))=(kids ds r).filter fun j=>decide (k=j):=List.filter_congr fun j hj=>by
     rw[Bool.eq_iff_iff,decide_eq_true_iff,decide_eq_true_iff]
     exact⟨fun z=>(k3 j hj z).symm,fun z=>by rw[<-z];exact k2⟩
    rw[e]
    exact xY _ k (iD ds r) k1
   ·rw[if_neg rn,List.filter_eq_nil_iff.mpr fun k hk z=>?_]
    ·rfl
    ·obtain⟨k1,k2⟩:=bC.mp hk
     rcases fit k r k1 k2 with y | y
     ·exact ra y
     ·exact rn y
 ·rw[decide_eq_false ro,Bool.false_and,Bool.false_and,if_neg mU,if_neg mU,List.filter_eq_nil_iff.mpr fun k hk z=>?_]
  ·rfl
  ·have kL:=of_decide_eq_true z
   obtain⟨k1,k2⟩:=bC.mp hk
   have k0:=eX k2
   obtain⟨p,hp,e⟩:=h.up k kL (by lia)
   rw[k2]at e
   injection e with e
   exact ro (by rw[e];exact hp)
end Tr
namespace Ru
open PySem L2 mR oU tZ Ds yd jA
open mO (Al)
structure Ot(nb:Nat)(H:Hp)(rv:List V)(rs:List Rm)(dis v8:List (List Dd)):Prop where
 inn:j9 H rv rs
 l1:dis.length=rs.length
 l2:v8.length=rs.length
 dd:Xb H rs (fun k=>dis.getD k []) (fun k=>v8.getD k [])
 say:∀ k:Nat,((∀ d∈dis.getD k [],d.ok nb)/\(dis.getD k []).length<=8)/\(∀ d∈v8.getD k [],d.ok nb)/\(v8.getD k []).length<=8
theorem Ot.mono{nb:Nat}{H H':Hp}{rv:List V}{rs:List Rm}{dis v8:List (List Dd)}(x:Ot nb H rv rs dis v8)(k:aF H H'):Ot nb H' rv rs dis v8:=⟨x.inn.mono k,x.l1,x.l2,x.dd.mono k,x.say⟩
theorem Ot.nil{nb:Nat}(H:Hp):Ot nb H [] [] [] []:=⟨.nil,rfl,rfl,(fun k r h=>by simp at h),fun k=>⟨⟨(fun d h=>by simp at h),by simp⟩,(fun d h=>by simp at h),by simp⟩⟩
theorem getD_snoc{α:Type}(l:List α)(x d:α)(k:Nat):(l++[x]).getD k d=if k < l.length then l.getD k d else if k=l.length then x else d:=by
 rw[jl]
 by_cases h:k < l.length
 ·rw[if_pos h,List.getElem?_append_left h,jl]
 ·rw[if_neg h]
  by_cases h2:k=l.length
  ·rw[if_pos h2,h2,List.getElem?_append_right (bu _),Nat.sub_self]
   rfl
  ·rw[if_neg h2,List.getElem?_eq_none (by rw[dJ,jj];lia)]
   rfl
theorem Ot.snoc{nb:Nat}{H:Hp}{rv:List V}{rs:List Rm}{dis v8:List (List Dd)}(x:Ot nb H rv rs dis v8){v:V}{r:Rm}{di dO:List Dd}(hr:Jb H v r)(h1:qj H r.ins di)(h2:qj H r.outs dO)
  (s1:(∀ d∈di,d.ok nb)/\di.length<=8) (s2:(∀ d∈dO,d.ok nb)/\dO.length<=8):Ot nb H (rv++[v]) (rs++[r]) (dis++[di]) (v8++[dO]):=by
 have a1:=x.l1
 have a2:=x.l2
 refine⟨x.inn.snoc hr,by rw[dJ,dJ,a1];rfl,by rw[dJ,dJ,a2];rfl,fun k q h=>?_,fun k=>?_⟩
 ·show qj H q.ins ((dis++[di]).getD k [])/\qj H q.outs ((v8++[dO]).getD k [])
  by_cases z:k < rs.length
  ·rw[List.getElem?_append_left z]at h
   rw[getD_snoc,getD_snoc,if_pos (show k < dis.length by lia),if_pos (show k < v8.length by lia)]
   exact x.dd k q h
  ·have hk:=(yZ.mp h).1
   rw[dJ,jj]at hk
   have z2:k=rs.length:=by lia
   subst z2
   rw[List.getElem?_append_right (bu _),Nat.sub_self]at h
   obtain rfl:=oN h
   rw[getD_snoc,getD_snoc,if_neg (by lia),if_pos (by lia),if_neg (by lia),if_pos (by lia)]
   exact⟨h1,h2⟩
 ·rw[getD_snoc,getD_snoc]
  have xs:=x.say k
  have no:((∀ d∈([]:List Dd),d.ok nb)/\([]:List Dd).length<=8):=⟨(fun d h=>by cases h),by decide⟩
  refine⟨?_,?_⟩
  ·split
   ·exact xs.1
   ·split
    ·exact s1
    ·exact no
  ·split
   ·exact xs.2
   ·split
    ·exact s2
    ·exact no
end Ru
namespace vM
open PySem L2 mR oU tZ yd
theorem wI{zs:List Str}{i:Int}(h0:0<=i)(h1:i < (zs.length:Int)):∃ z∈zs,oR (zs.map V.str) i=some (.str z):=by
 obtain⟨v,hv,e⟩:=mJ (xs:=zs.map V.str) (i:=i) h0 (by rw[cM];exact h1)
 obtain⟨z,hz,rfl⟩:=fO.mp hv
 exact⟨z,hz,e⟩
def Bm:Sp:=fun vs H Q _ => ∃ k n:Int,vs=[.int k,.int n]/\∀(z:Str)(H':Hp),aM H H'->Q (.str z) H'
def kI(H:Hp)(ps:Addr)(sz:List Int):Prop:=H ps=some (.lst (sz.map V.int))/\(∀ z∈sz,0 < z)/\sz.length<=6
theorem kI.mono{H H':Hp}{ps:Addr}{sz:List Int}(h:kI H ps sz)(s:aM H H'):kI H' ps sz:=⟨s _ _ h.1,h.2⟩
def QM:Sp:=fun vs H Q _ => ∃(n e:Int)(ps:Addr)(sz:List Int),vs=[.int n,.ref ps,.int e]/\0<=n/\n < 2147483648/\kI H ps sz/\∀(v:V)(d:Dd)(H':Hp),aM H H'->uY H' v d->d.ok sz.length->Q v H'
def Bo(K:PySem.W.Frag):Sp:=fun vs H Q _ => ∃(a ps:Addr)(ns sz:List Int)(k salt e:Int),vs=[.ref a,.int k,.int salt,.ref ps,.int e]/\aX K H a (ns.map V.int)/\ns.length<=63/\(0<=k/\k<=1000)/\(0<=salt/\salt<=100)/\kI H ps sz/\∀(v:V)(ds:List Dd)(H':Hp),aM H H'->Ru.qj H' v ds->(∀ d∈ds,d.ok sz.length)->ds.length<=8->Q v H'
def mY(h:Nat):Sp:=fun vs H Q _ => ∃(n r hi:Int)(nb:Nat),vs=[.int n,.int r,.int (nb:Int),.int hi]/\0 < r/\1<=hi/\hi<=(h:Int)/\∀(v:V)(g:Gd)(H':Hp),aM H H'->jn H' v g->g.ok nb->(g.ht:Int)<=hi->Q v H'
section
variable{P:Program}{w:World}{K:PySem.W.Frag}{mg:Str->Option Value}{base:Heap}
theorem pC:aN ["_law_k","_law_number","_law_rest","_law_at"] ["_law_k","_law_number"] (aG rP):=⟨rfl,rfl,rfl,by decide +kernel,rfl,by decide +kernel,by decide +kernel⟩
theorem VG{f:Addr}{fd:FuncData}(F:cZ K "_law_name" "_law_name" rP f fd)(aY:mg "len" = none):aL P w K mg base aq 1 f fd ["_law_k","_law_number"] Bm:=by
 refine F.ok pC (fun vs H Q E h=>?_) (fun cdv A outer s H vs Q E hr h=>?_)
 ·refine aK fun G_ g_=>?_
  obtain⟨k,n,rfl,_⟩:=h
  refine g_ ?_;clear g_
  rfl
 refine aK fun G_ g_=>?_
 obtain⟨k,n,rfl,q⟩:=h
 refine g_ ?_;clear g_
 refine⟨_,(zE (zK (i:=2) pC.nd rfl (Or.inl rfl) (yB yU (yK (zA zP (zA zP (zA zP (zA zP zD))))) (yC zY (pv 1) zB) (fun _ _=>rfl)))
  (zE (zK (i:=3) pC.nd rfl (Or.inl rfl) (rA (yC zY (yC yL (pv 1) zB) (yC yF (zS DG rfl aY PySem.boot_len (zA (pv 2) zD)) zB))))
  (zG (zO (yC xG (yC xG (fH QR (pv 2) iM (iK (pv 3))) (yB Ry zP (yC zY (pv 0) zB) (fun _ _=>rfl))) (fH QR (pv 2) (iK (pv 3)) iM)))))),?_⟩
 refine aK fun G_ g_=>?_
 obtain⟨z,hz,hat⟩:=wI (zs:=[("" : Str),"hall","quiet","aaaaaaaaaaa"]) (i:=n % 4) (by lia) (by show _ < (4:Int);lia)
 refine g_ ?_;clear g_
 have lz:z.length<=11:=by
  simp only[List.mem_cons,List.not_mem_nil,or_false]at hz
  rcases hz with rfl | rfl | rfl | rfl <;> decide +kernel
 have hz':z.length<=sizeLine:=zI (by lia)
 have sl:∀(lo hi:Option Int),(Txt.slice z lo hi).length<=11:=fun lo hi=>Nat.le_trans (Txt.slice_le z lo hi) lz
 refine⟨zI (by show 4<=1000;decide),fun p hp=>⟨_,rfl,bF ⟨(by show (0:Int) < 4;decide),cz (aX.of zC) hat ?_⟩⟩⟩
 have s1:=zF hp (.lst [V.str "",V.str "hall",V.str "quiet",V.str "aaaaaaaaaaa"])
 refine⟨fun v H'=>aM H H'/\∃ t:Int,v = .int t,?_,?_⟩
 ·exact⟨_,rfl,bF ⟨⟨by decide,by decide⟩,_,rfl,z,rfl,hz',_,_,rfl,rfl,bF ⟨(by show (0:Int) < (z.length:Int)+1;lia),s1,_,rfl⟩⟩⟩
 rintro _ H2 aP
 refine aK fun G_ g_=>?_
 obtain⟨s2,t,rfl⟩:=aP
 obtain⟨c1,_,h1⟩:=mJ (xs:=("abcdefghijklmnopqrstuvwxyz" : Str).cps.toList) (i:=k % 26) (by lia) (by show k % 26 < 26;lia)
 refine g_ ?_;clear g_
 have la:∀ x y:Str,(x++y).length=x.length+y.length:=fun x y=>by
  show (x.cps++y.cps).size=_
  rw[Array.size_append]
  rfl
 have lo:∀ c:Nat,(⟨#[c]⟩:Str).length=1:=fun c=>rfl
 have l1:=sl none (some t)
 have l2:=sl (some t) none
 exact⟨_,rfl,_,rfl,_,rfl,z,rfl,hz',_,rfl,bF ⟨(by show (0:Int) < 26;decide),_,_,c1,rfl,rfl,zI (by decide +kernel),h1,_,_,rfl,rfl,zI (by rw[lo];lia),_,rfl,_,rfl,_,rfl,z,rfl,hz',_,_,rfl,rfl,zI (by rw[la,lo];lia),q _ H2 s2⟩⟩
theorem jr:aN ["_law_number","_law_sizes","_law_events","_law_way","_law_rest","_law_b"] ["_law_number","_law_sizes","_law_events"] (aG rT):=⟨rfl,rfl,rfl,by decide +kernel,rfl,by decide +kernel,by decide +kernel⟩
theorem VV{f gn:Addr}{fd dn:FuncData}(F:cZ K "_law_deed" "_law_deed" rT f fd)(oJ:aL P w K mg base aq 1 gn dn ["_law_k","_law_number"] Bm)(oA:Binds K dn ["_law_k","_law_number"] [])(nW:KI K gn)(nO:mg "_law_name" = some (.ref gn))
  (aY:mg "len" = none):aL P w K mg base aq 2 f fd ["_law_number","_law_sizes","_law_events"] QM:=by
 refine F.ok jr (fun vs H Q E h=>?_) (fun cdv A outer s H vs Q E hr h=>?_)
 ·refine aK fun G_ g_=>?_
  obtain⟨n,e,ps,sz,rfl,_⟩:=h
  refine g_ ?_;clear g_
  rfl
 refine aK fun G_ g_=>?_
 obtain⟨n,e,ps,sz,rfl,n0,n1,hsz,q⟩:=h
 refine g_ ?_;clear g_
 refine⟨_,(zE (zK (i:=3) jr.nd rfl (Or.inl rfl) (yB yU (yK (zA zB (zA zB (zA zB (zA zB (zA zB zD)))))) (yC zY (pv 0) zB) (fun _ _=>rfl)))
  (zE (zK (i:=4) jr.nd rfl (Or.inl rfl) (yC yL (pv 0) zB))
  (zE (yD (bW (PW.pt (pw_and (zL yG (pv 3) zB (zR _)) (yP (zL fY (pv 2) zB (zR _))))))
  (zG (zO (zW (zA zP (zA (yC zY (pv 4) (pv 2)) zD)))))
  zT)
  (zE (yD (bW (PW.pt (pw_and (zL yG (pv 3) zB (zR _)) (yP (zL fY (zS zN rfl aY PySem.boot_len (zA (pv 1) zD)) zB (zR _))))))
  (zE (zK (i:=5) jr.nd rfl (Or.inl rfl) (yC zY (pv 4) (zS zN rfl aY PySem.boot_len (zA (pv 1) zD))))
  (zG (zO (zW (zA zP (zA (pv 5) (zA (yC zY (yC yL (pv 4) zB) (yB yU (pv 1) (pv 5) (fun _ _=>rfl))) zD)))))))
  zT)
  (zE (yD (bW (PW.pt (pw_and (zL yG (pv 3) zB (zR _)) (pw_and (zL fY (zS zN rfl aY PySem.boot_len (zA (pv 1) zD)) zB (zR _)) (yP (zL yG (yC zY (yC yL (pv 4) zB) zB) zB (zR _)))))))
  (zG (zO (zW (zA zP (zA (yC zY (pv 4) (zS zN rfl aY PySem.boot_len (zA (pv 1) zD))) (zA (yC gM (yC yF (yC gM (pv 4) (yC Hl zB zB)) (pv 4)) (yC kh zB (yC gM zB (yC zY (yC yL (pv 4) zB) zB)))) zD))))))
  zT)
  (zE (yD (bW (PW.pt (pw_and (zL yG (pv 3) zB (zR _)) (yP (zL fY (zS zN rfl aY PySem.boot_len (zA (pv 1) zD)) zB (zR _))))))
  (zG (zO (zW (zA zP (zA (yC zY (pv 4) (zS zN rfl aY PySem.boot_len (zA (pv 1) zD))) (zA (yC kh (yC zY (yC yL (pv 4) zB) zB) zB) zD))))))
  zT)
  (zE (yD (zL yG (yC zY (pv 4) zB) zB (zR _))
  (zG (zO (zW (zA zP (zA zP zD)))))
  zT)
  (zG (zO (zW (zA zP (zA (zJ oJ hr rfl nO nW oA .nil yE (zA (yC zY (yC yL (pv 4) zB) zB) (zA (yC yL (pv 4) zB) zD))) zD)))))))))))),?_⟩
 obtain⟨v,hat⟩:=Li (ns:=[0,1,1,2,3]) (i:=n % 5) (by lia) (by show _ < (5:Int);lia)
 have hl:(sz.map V.int).length=sz.length:=cM _
 refine⟨zI (by show 5<=1000;decide),fun p0 hp0=>⟨_,rfl,bF ⟨(by show (0:Int) < 5;decide),cz (aX.of zC) hat ?_⟩⟩⟩
 have s1:=zF hp0 (.lst [V.int 0,V.int 1,V.int 1,V.int 2,V.int 3])
 have hz1:=hsz.mono s1
 generalize upd H p0 (.lst [V.int 0,V.int 1,V.int 1,V.int 2,V.int 3])=H1 at s1 hz1 ⊢
 refine⟨_,rfl,bF ⟨⟨by decide,by decide⟩,?_⟩⟩
 have r0:0<=n / 5:=by lia
 have r1:n / 5 < 2147483648:=by lia
 refine⟨fun c H'=>H'=H1/\(c=true->0 < e),?_,?_⟩
 ·refine⟨_,rfl,rfl,_,rfl,?_⟩
  refine cW (fun c=>?_) (fun c=>⟨rfl,fun z=>(by cases z)⟩)
  exact⟨_,rfl,bF ⟨_,rfl,rfl,fun z=>of_decide_eq_true z⟩⟩
 rintro c1 H' ⟨rfl,hc1⟩
 refine cW (fun c=>?_) (fun c=>?_)
 ·have he:=hc1 c
  exact⟨_,rfl,_,rfl,bF ⟨(by show (0:Int) < e;exact he),zI (by show 2<=1000;decide),fun p hp=>q _ (.send _) _ (s1.trans (zF hp _)) (.send zC) (fun b hb=>by cases hb)⟩⟩
 refine⟨fun c H2=>H2=H'/\(c=true->0 < sz.length),?_,?_⟩
 ·exact⟨_,rfl,rfl,_,rfl,cW (fun c=>⟨_,rfl,fW rfl (.inl (aX.of hz1.1)) (bF ⟨_,rfl,rfl,fun z=>(by have:=of_decide_eq_true z;rw[hl]at this;lia)⟩)⟩) (fun c=>⟨rfl,fun z=>(by cases z)⟩)⟩
 rintro c2 H2 ⟨rfl,hc2⟩
 refine cW (fun c=>?_) (fun c=>?_)
 ·have he:=hc2 c
  have h0:=Int.emod_nonneg (n / 5) (show (((sz.map V.int).length:Nat):Int) ≠ 0 by lia)
  have h1:=Int.emod_lt_of_pos (n / 5) (show (0:Int) < (((sz.map V.int).length:Nat):Int) by lia)
  refine aK fun G_ g_=>?_
  obtain⟨vz,hvz,qE8⟩:=mJ (xs:=sz.map V.int) (i:=n / 5 % (((sz.map V.int).length:Nat):Int)) h0 h1
  obtain⟨z,hzm,rfl⟩:=fO.mp hvz
  refine g_ ?_;clear g_
  refine⟨_,rfl,_,rfl,fW rfl (.inl (aX.of hz1.1)) (bF ⟨(by show (0:Int) < (((sz.map V.int).length:Nat):Int);lia),?_⟩)⟩
  exact⟨_,rfl,_,rfl,bF ⟨⟨by decide,by decide⟩,_,rfl,_,rfl,cz (aX.of hz1.1) qE8 (bF ⟨(by show (0:Int) < z;exact hz1.2.1 z hzm),zI (by show 3<=1000;decide),fun p hp=>q _ (.set _ _) _ (s1.trans (zF hp _)) (.set zC) (fun b hb=>by cases hb;exact⟨Int.emod_nonneg _ (by lia),by rw[<-hl];exact Int.emod_lt_of_pos _ (by lia)⟩)⟩)⟩⟩
 refine⟨fun c H3=>H3=H2/\(c=true->0 < sz.length),?_,?_⟩
 ·refine⟨_,rfl,rfl,_,rfl,cW (fun c=>?_) (fun c=>⟨rfl,fun z=>(by cases z)⟩)⟩
  refine⟨_,rfl,fW rfl (.inl (aX.of hz1.1)) (bF ⟨_,rfl,cW (fun c=>?_) (fun c=>⟨rfl,fun z=>(by cases z)⟩)⟩)⟩
  ·have:=of_decide_eq_true c
   rw[hl]at this
   exact⟨_,rfl,bF ⟨⟨by decide,by decide⟩,_,_,rfl,rfl,(by show (0:Int) < 5;decide),rfl,_,rfl,rfl,fun _=>by lia⟩⟩
 rintro c3 H3 ⟨rfl,hc3⟩
 refine cW (fun c=>?_) (fun c=>?_)
 ·have he:=hc3 c
  exact⟨_,rfl,_,rfl,fW rfl (.inl (aX.of hz1.1)) (bF ⟨(by show (0:Int) < (((sz.map V.int).length:Nat):Int);lia),_,rfl,bF ⟨⟨by decide,by decide,by decide⟩,_,_,rfl,rfl,.inl ⟨by lia,by lia⟩,_,rfl,bF ⟨_,rfl,bF ⟨⟨by decide,by decide⟩,_,_,rfl,rfl,(by show (0:Int) < 2;decide),_,_,rfl,rfl,.inl ⟨by decide,by decide⟩,_,_,rfl,rfl,bF ⟨.inr ⟨by lia,by lia⟩,zI (by show 3<=1000;decide),fun p hp=>q _ (.add _ _) _ (s1.trans (zF hp _)) (.add zC) (fun b hb=>by cases hb;exact⟨Int.emod_nonneg _ (by lia),by rw[<-hl];exact Int.emod_lt_of_pos _ (by lia)⟩)⟩⟩⟩⟩⟩)⟩
 refine⟨fun c H4=>H4=H3/\(c=true->0 < sz.length),?_,?_⟩
 ·exact⟨_,rfl,rfl,_,rfl,cW (fun c=>⟨_,rfl,fW rfl (.inl (aX.of hz1.1)) (bF ⟨_,rfl,rfl,fun z=>(by have:=of_decide_eq_true z;rw[hl]at this;lia)⟩)⟩) (fun c=>⟨rfl,fun z=>(by cases z)⟩)⟩
 rintro c4 H4 ⟨rfl,hc4⟩
 refine cW (fun c=>?_) (fun c=>?_)
 ·have he:=hc4 c
  exact⟨_,rfl,_,rfl,fW rfl (.inl (aX.of hz1.1)) (bF ⟨(by show (0:Int) < (((sz.map V.int).length:Nat):Int);lia),_,rfl,bF ⟨⟨by decide,by decide⟩,_,_,rfl,rfl,(by show (0:Int) < 9;decide),_,_,rfl,rfl,zI (by show 3<=1000;decide),fun p hp=>q _ (.add _ _) _ (s1.trans (zF hp _)) (.add zC) (fun b hb=>by cases hb;exact⟨Int.emod_nonneg _ (by lia),by rw[<-hl];exact Int.emod_lt_of_pos _ (by lia)⟩)⟩⟩)⟩
 refine⟨_,rfl,bF ⟨(by show (0:Int) < 2;decide),rfl,_,rfl,cW (fun c=>?_) (fun c=>?_)⟩⟩
 ·exact⟨zI (by show 2<=1000;decide),fun p hp=>q _ (.say _) _ (s1.trans (zF hp _)) (.say zC) (fun b hb=>by cases hb)⟩
 ·exact⟨_,rfl,bF ⟨⟨by decide,by decide⟩,_,_,rfl,rfl,(by show (0:Int) < 3;decide),_,rfl,bF ⟨⟨by decide,by decide⟩,_,_,rfl,fun z H5 s5=>⟨zI (by show 2<=1000;decide),fun p hp=>q _ (.say _) _ ((s1.trans s5).trans (zF hp _)) (.say zC) (fun b hb=>by cases hb)⟩⟩⟩⟩
theorem gH:aN ["_law_script","_law_k","_law_salt","_law_sizes","_law_events","_law_number","_law_many","_law_deeds_here","_law_j"] ["_law_script","_law_k","_law_salt","_law_sizes","_law_events"] (aG qD):=⟨rfl,rfl,rfl,by decide +kernel,rfl,by decide +kernel,by decide +kernel⟩
theorem R8{f gm gd:Addr}{fd dm dd:FuncData}(F:cZ K "_law_deeds" "_law_deeds" qD f fd)
  (aW:aL P w K mg base aq 2 gm dm ["_law_script","_law_k","_law_salt"] (gF K)) (aV:Binds K dm ["_law_script","_law_k","_law_salt"] []) (aU:KI K gm) (aR:mg "_law_mixed" = some (.ref gm))
  (We:aL P w K mg base aq 2 gd dd ["_law_number","_law_sizes","_law_events"] QM) (W9:Binds K dd ["_law_number","_law_sizes","_law_events"] []) (Vm:KI K gd) (Vg:mg "_law_deed" = some (.ref gd))
  (aZ:mg "range" = none) (aa:mg "tuple" = none):aL P w K mg base aq 3 f fd ["_law_script","_law_k","_law_salt","_law_sizes","_law_events"] (Bo K):=by
 refine F.ok gH (fun vs H Q E h=>?_) (fun cdv A outer s H vs Q E hr h=>?_)
 ·refine aK fun G_ g_=>?_
  obtain⟨a,ps,ns,sz,k,salt,e,rfl,_⟩:=h
  refine g_ ?_;clear g_
  rfl
 refine aK fun G_ g_=>?_
 obtain⟨a,ps,ns,sz,k,salt,e,rfl,hS,h63,⟨k0,k1⟩,⟨t0,t1⟩,hsz,q⟩:=h
 refine g_ ?_;clear g_
 refine⟨_,(zE (zK (i:=5) gH.nd rfl (Or.inl rfl) (zJ aW hr rfl aR aU aV .nil yE (zA (pv 0) (zA (pv 1) (zA (pv 2) zD)))))
  (zE (zK (i:=6) gH.nd rfl (Or.inl rfl) (yB yU (yK (zA zB (zA zB (zA zB (zA zB (zA zB (zA zB (zA zB (zA zB zD))))))))) (yC zY (pv 5) zB) (fun _ _=>rfl)))
  (zE (zK (i:=7) gH.nd rfl (Or.inl rfl) (yK zD))
  (zZ (bN PassesOwn.never rfl (bV rfl aZ (zA (pv 6) zD)) (yJ (i:=8) gH.nd rfl (Or.inl rfl))
  (zG (yI (bz PySem.F.plainAttrs_list PySem.F.slot_list_append PySem.F.type_list_append yH (pv 7) (zA (zJ We hr rfl Vg Vm W9 .nil yE (zA (zJ aW hr rfl aR aU aV .nil yE (zA (pv 0) (zA (pv 1) (zA (yC yF (yC yF (pv 2) zB) (pv 8)) zD)))) (zA (pv 3) (zA (pv 4) zD)))) zD)))))
  (zG (zO (yA zX rfl aa PyProof.Rows.boot_tuple (zA (pv 7) zD)))))))),?_⟩
 refine⟨_,rfl,_,rfl,_,rfl,a,ns,_,_,rfl,hS,h63,⟨by lia,by lia⟩,⟨by lia,by lia⟩,fun x x0 x1=>?_⟩
 refine aK fun G_ g_=>?_
 obtain⟨m,hm,hat⟩:∃ m:Nat,m<=3/\oR [V.int 0,V.int 0,V.int 1,V.int 1,V.int 1,V.int 2,V.int 2,V.int 3] (x % 8)=some (.int (m:Int)):=by
  obtain⟨o,ho,e⟩:=xK (os:=[0,0,1,1,1,2,2,3]) (i:=x % 8) (by lia) (by show _ < (8:Int);lia)
  refine⟨o,?_,e⟩
  simp only[List.mem_cons,List.not_mem_nil,or_false]at ho
  lia
 refine g_ ?_;clear g_
 refine⟨zI (by show 8<=1000;decide),fun p0 hp0=>⟨_,rfl,bF ⟨(by show (0:Int) < 8;decide),cz (aX.of zC) hat ?_⟩⟩⟩
 have s1:=zF hp0 (.lst [V.int 0,V.int 0,V.int 1,V.int 1,V.int 1,V.int 2,V.int 2,V.int 3])
 generalize upd H p0 (.lst [V.int 0,V.int 0,V.int 1,V.int 1,V.int 1,V.int 2,V.int 2,V.int 3])=H1 at s1 ⊢
 refine⟨Nat.zero_le _,fun pd hpd=>?_⟩
 have UG:H pd=none:=s1.free hpd
 have s2:=s1.trans (zF hpd (.lst []))
 refine⟨fun σ' H' => ∃(xs:List V)(ds:List Dd),aM H H'/\H' pd=some (.lst xs)/\fc H' xs ds/\(∀ d∈ds,d.ok sz.length)/\ds.length<=8/\∃ o8:Option V,σ'=[some (.ref a),some (.int k),some (.int salt),some (.ref ps),some (.int e),some (.int x),some (.int (m:Int)),some (.ref pd),o8],?_,?_⟩
 ·refine⟨_,rfl,_,rfl,by lia,by lia,?_⟩
  refine bR (fun i σ' H' => ∃(xs:List V)(ds:List Dd),aM H H'/\H' pd=some (.lst xs)/\fc H' xs ds/\(∀ d∈ds,d.ok sz.length)/\ds.length<=i/\∃ o8:Option V,σ'=[some (.ref a),some (.int k),some (.int salt),some (.ref ps),some (.int e),some (.int x),some (.int (m:Int)),some (.ref pd),o8])
   ⟨[],[],s2,zC,.nil,(fun d h=>by cases h),bu _,_,rfl⟩ ?_ (fun σ' H' ⟨xs,ds,s3,h3,hD,ok,l,r⟩=>⟨xs,ds,s3,h3,hD,ok,by lia,r⟩)
  rintro i σ' H3 hi aP
  refine aK fun G_ g_=>?_
  obtain⟨xs,ds,s3,h3,hD,ok,lx,o8,rfl⟩:=aP
  refine g_ ?_;clear g_
  have lx2:=hD.length
  refine⟨_,rfl,.inl ⟨rfl,_,aX.of h3⟩,_,rfl,_,rfl,_,rfl,bF ⟨_,rfl,bF ⟨a,ns,_,_,rfl,s3.seq hS,h63,⟨by lia,by lia⟩,⟨by lia,by lia⟩,fun y y0 y1=>?_⟩⟩⟩
  refine⟨_,rfl,_,rfl,y,e,ps,sz,rfl,y0,y1,hsz.mono s3,fun v d H4 s4 hd okd=>?_⟩
  have k5:=aF.lst (s4 _ _ h3) (.lst (xs++[v]))
  refine⟨pd,_,_,rfl,rfl,s4 _ _ h3,zV (by lia),xs++[v],ds++[d],cB UG (s3.trans s4) _,zC,(hD.mono ((aF.of s4).trans k5)).snoc (hd.mono k5),fun x hx=>?_,by rw[dJ,jj];lia,_,rfl⟩
  rcases cX.mp hx with hx | hx
  ·exact ok x hx
  ·rw[cJ.mp hx]
   exact okd
 rintro σ' H3 aP
 refine aK fun G_ g_=>?_
 obtain⟨xs,ds,s3,h3,hD,ok,l,o8,rfl⟩:=aP
 refine g_ ?_;clear g_
 exact⟨_,rfl,pd,_,rfl,.inl ⟨aX.of h3,fun p hp=>q _ ds _ (s3.trans (zF hp _)) ⟨p,xs,rfl,zC,hD.mono (aF.new hp _)⟩ ok l⟩⟩
theorem mq:aN ["_law_number","_law_rooms_here","_law_boxes","_law_high","_law_way","_law_rest"] ["_law_number","_law_rooms_here","_law_boxes","_law_high"] (aG jK):=⟨rfl,rfl,rfl,by decide +kernel,rfl,by decide +kernel,by decide +kernel⟩
theorem R6{n:Nat}{f:Addr}{fd:FuncData}(F:cZ K "_law_guard" "_law_guard" jK f fd)(je:aL P w K mg base aq n f fd ["_law_number","_law_rooms_here","_law_boxes","_law_high"] (mY n))(dD:Binds K fd ["_law_number","_law_rooms_here","_law_boxes","_law_high"] [])(jX:KI K f)(cu:mg "_law_guard" = some (.ref f)) :
  aL P w K mg base aq (n+1) f fd ["_law_number","_law_rooms_here","_law_boxes","_law_high"] (mY (n+1)):=by
 refine F.ok mq (fun vs H Q E h=>?_) (fun cdv A outer s H vs Q E hr h=>?_)
 ·refine aK fun G_ g_=>?_
  obtain⟨m,r,hi,b,rfl,_⟩:=h
  refine g_ ?_;clear g_
  rfl
 refine aK fun G_ g_=>?_
 obtain⟨m,r,hi,b,rfl,r0,h1,h2,q⟩:=h
 refine g_ ?_;clear g_
 refine⟨_,(zE (zK (i:=4) mq.nd rfl (Or.inl rfl) (yC zY (pv 0) zB))
  (zE (zK (i:=5) mq.nd rfl (Or.inl rfl) (yC yL (pv 0) zB))
  (zE (yD (bW (PW.pt (pw_and (zL fY (pv 3) zB (zR _)) (yP (zL yG (pv 4) zB (zR _))))))
  (zG (zO (zW (zA zP (zA (zJ je hr rfl cu jX dD .nil yE (zA (pv 5) (zA (pv 1) (zA (pv 2) (zA (yC kh (pv 3) zB) zD))))) zD)))))
  zT)
  (zE (yD (bW (PW.pt (pw_and (zL fY (pv 3) zB (zR _)) (yP (zL yG (pv 4) zB (zR _))))))
  (zG (zO (zW (zA zP (zA (zJ je hr rfl cu jX dD .nil yE (zA (pv 5) (zA (pv 1) (zA (pv 2) (zA (yC kh (pv 3) zB) zD))))) (zA (zJ je hr rfl cu jX dD .nil yE (zA (yC yL (pv 5) zB) (zA (pv 1) (zA (pv 2) (zA (yC kh (pv 3) zB) zD))))) zD))))))
  zT)
  (zE (yD (bW (PW.pt (pw_and (zL fY (pv 3) zB (zR _)) (yP (zL yG (pv 4) zB (zR _))))))
  (zG (zO (zW (zA zP (zA (zJ je hr rfl cu jX dD .nil yE (zA (pv 5) (zA (pv 1) (zA (pv 2) (zA (yC kh (pv 3) zB) zD))))) (zA (zJ je hr rfl cu jX dD .nil yE (zA (yC yL (pv 5) zB) (zA (pv 1) (zA (pv 2) (zA (yC kh (pv 3) zB) zD))))) zD))))))
  zT)
  (zE (yD (bW (PW.pt (pw_or (zL yG (pv 4) zB (zR _)) (pw_or1 (zL yG (pv 4) zB (zR _))))))
  (zG (zO (zW (zA zP (zA (yC zY (pv 5) (pv 1)) zD)))))
  zT)
  (zE (yD (bW (PW.pt (pw_and (zL yG (pv 4) zB (zR _)) (yP (zL fY (pv 2) zB (zR _))))))
  (zG (zO (zW (zA zP (zA (yC zY (pv 5) (pv 2)) (zA (yC zY (yC yL (pv 5) zB) zB) zD))))))
  zT)
  (zE (yD (bW (PW.pt (pw_and (zL yG (pv 4) zB (zR _)) (yP (zL fY (pv 2) zB (zR _))))))
  (zG (zO (zW (zA zP (zA (yC zY (pv 5) (pv 2)) (zA (yC zY (yC yL (pv 5) zB) zB) zD))))))
  zT)
  (zG (zO (zW (zA zP zD)))))))))))),?_⟩
 refine⟨_,rfl,bF ⟨(by show (0:Int) < 9;decide),?_⟩⟩
 refine⟨_,rfl,bF ⟨⟨by decide,by decide⟩,?_⟩⟩
 refine⟨fun c H'=>H'=H/\(c=true->1 < hi),?_,?_⟩
 ·refine⟨_,rfl,bF ⟨_,rfl,cW (fun c=>?_) (fun c=>⟨rfl,fun z=>(by cases z)⟩)⟩⟩
  exact⟨_,rfl,rfl,_,rfl,rfl,fun _=>of_decide_eq_true c⟩
 rintro c1 H ⟨rfl,hc1⟩
 refine cW (fun c=>?_) (fun c=>?_)
 ·have hh:=hc1 c
  exact⟨_,rfl,_,rfl,_,rfl,_,rfl,bF ⟨_,_,_,_,rfl,r0,by lia,by lia,fun v g H2 s2 hg Pg ght=>⟨zI (by show 2<=1000;decide),fun p hp=>q _ (.neg g) _ (s2.trans (zF hp _)) (.neg zC (hg.mono (aF.new hp _))) Pg (by show ((g.ht+1:Nat):Int)<=hi;lia)⟩⟩⟩
 refine⟨fun c H'=>H'=H/\(c=true->1 < hi),?_,?_⟩
 ·refine⟨_,rfl,bF ⟨_,rfl,cW (fun c=>?_) (fun c=>⟨rfl,fun z=>(by cases z)⟩)⟩⟩
  exact⟨_,rfl,rfl,_,rfl,rfl,fun _=>of_decide_eq_true c⟩
 rintro c2 H ⟨rfl,hc2⟩
 refine cW (fun c=>?_) (fun c=>?_)
 ·have hh:=hc2 c
  exact⟨_,rfl,_,rfl,_,rfl,_,rfl,bF ⟨_,_,_,_,rfl,r0,by lia,by lia,fun v g H2 s2 hg Pg ght=>⟨_,rfl,bF ⟨⟨by decide,by decide⟩,_,rfl,_,rfl,_,rfl,bF ⟨_,_,_,_,rfl,r0,by lia,by lia,fun v3 g3 H3 s3 hg3 Yz qEE=>⟨zI (by show 3<=1000;decide),fun p hp=>q _ (.both g g3) _ ((s2.trans s3).trans (zF hp _)) (.both zC (hg.mono (aF.of (s3.trans (zF hp _)))) (hg3.mono (aF.new hp _))) ⟨Pg,Yz⟩ (by show ((1+max g.ht g3.ht:Nat):Int)<=hi;lia)⟩⟩⟩⟩⟩⟩
 refine⟨fun c H'=>H'=H/\(c=true->1 < hi),?_,?_⟩
 ·refine⟨_,rfl,bF ⟨_,rfl,cW (fun c=>?_) (fun c=>⟨rfl,fun z=>(by cases z)⟩)⟩⟩
  exact⟨_,rfl,rfl,_,rfl,rfl,fun _=>of_decide_eq_true c⟩
 rintro c3 H ⟨rfl,hc3⟩
 refine cW (fun c=>?_) (fun c=>?_)
 ·have hh:=hc3 c
  exact⟨_,rfl,_,rfl,_,rfl,_,rfl,bF ⟨_,_,_,_,rfl,r0,by lia,by lia,fun v g H2 s2 hg Pg ght=>⟨_,rfl,bF ⟨⟨by decide,by decide⟩,_,rfl,_,rfl,_,rfl,bF ⟨_,_,_,_,rfl,r0,by lia,by lia,fun v3 g3 H3 s3 hg3 Yz qEE=>⟨zI (by show 3<=1000;decide),fun p hp=>q _ (.either g g3) _ ((s2.trans s3).trans (zF hp _)) (.either zC (hg.mono (aF.of (s3.trans (zF hp _)))) (hg3.mono (aF.new hp _))) ⟨Pg,Yz⟩ (by show ((1+max g.ht g3.ht:Nat):Int)<=hi;lia)⟩⟩⟩⟩⟩⟩
 refine⟨fun c H'=>H'=H,?_,?_⟩
 ·exact⟨_,rfl,rfl,_,rfl,cW (fun c=>rfl) (fun c=>⟨_,rfl,rfl,_,rfl,rfl⟩)⟩
 rintro c4 H rfl
 refine cW (fun c=>?_) (fun c=>?_)
 ·exact⟨_,rfl,_,rfl,bF ⟨(by show (0:Int) < r;exact r0),zI (by show 2<=1000;decide),fun p hp=>q _ (.inn _) _ (zF hp _) (.inn zC) trivial (by show (1:Int)<=hi;lia)⟩⟩
 refine⟨fun c H'=>H'=H/\(c=true->0 < (b:Int)),?_,?_⟩
 ·refine⟨_,rfl,rfl,_,rfl,cW (fun c=>⟨_,rfl,bF ⟨_,rfl,rfl,fun z=>of_decide_eq_true z⟩⟩) (fun c=>⟨rfl,fun z=>(by cases z)⟩)⟩
 rintro c5 H ⟨rfl,hc5⟩
 refine cW (fun c=>?_) (fun c=>?_)
 ·have hh:=hc5 c
  exact⟨_,rfl,_,rfl,bF ⟨(by show (0:Int) < (b:Int);exact hh),_,rfl,bF ⟨⟨by decide,by decide⟩,_,_,rfl,rfl,(by show (0:Int) < 4;decide),zI (by show 3<=1000;decide),fun p hp=>q _ (.is _ _) _ (zF hp _) (.is zC) ⟨Int.emod_nonneg _ (by lia),Int.emod_lt_of_pos _ hh⟩ (by show (1:Int)<=hi;lia)⟩⟩⟩
 refine⟨fun c H'=>H'=H/\(c=true->0 < (b:Int)),?_,?_⟩
 ·refine⟨_,rfl,rfl,_,rfl,cW (fun c=>⟨_,rfl,bF ⟨_,rfl,rfl,fun z=>of_decide_eq_true z⟩⟩) (fun c=>⟨rfl,fun z=>(by cases z)⟩)⟩
 rintro c6 H ⟨rfl,hc6⟩
 refine cW (fun c=>?_) (fun c=>?_)
 ·have hh:=hc6 c
  exact⟨_,rfl,_,rfl,bF ⟨(by show (0:Int) < (b:Int);exact hh),_,rfl,bF ⟨⟨by decide,by decide⟩,_,_,rfl,rfl,(by show (0:Int) < 5;decide),zI (by show 3<=1000;decide),fun p hp=>q _ (.under _ _) _ (zF hp _) (.under zC) ⟨Int.emod_nonneg _ (by lia),Int.emod_lt_of_pos _ hh⟩ (by show (1:Int)<=hi;lia)⟩⟩⟩
 exact⟨zI (by show 1<=1000;decide),fun p hp=>q _ .yes _ (zF hp _) (.yes zC) trivial (by show (1:Int)<=hi;lia)⟩
theorem Ia{f:Addr}{fd:FuncData}:aL P w K mg base aq 0 f fd ["_law_number","_law_rooms_here","_law_boxes","_law_high"] (mY 0):=by
 have no:∀ vs H Q E,¬ mY 0 vs H Q E:=fun vs H Q E h=>by
  refine aK fun G_ g_=>?_
  obtain⟨m,r,hi,b,_,_,h1,h2,_⟩:=h
  refine g_ ?_;clear g_
  lia
 exact⟨fun vs H Q E h=>absurd h (no vs H Q E),fun A outer s H args us vs Q E _ _ _ _ h=>absurd h (no vs H Q E)⟩
theorem all_guard{f:Addr}{fd:FuncData}(F:cZ K "_law_guard" "_law_guard" jK f fd)(dD:Binds K fd ["_law_number","_law_rooms_here","_law_boxes","_law_high"] [])(cu:mg "_law_guard" = some (.ref f)):∀ n:Nat,aL P w K mg base aq n f fd ["_law_number","_law_rooms_here","_law_boxes","_law_high"] (mY n)
 | 0=>Ia
 | n+1=>R6 F (all_guard F dD cu n) dD F.kp cu
theorem Ce{ds:List Int}{k:Nat}(h:k < ds.length):oR (ds.map V.int) ((k:Nat):Int)=some (.int (ds.getD k 0)):=by
 refine yQ ?_
 rw[qd,cj h,jl,cj h]
 rfl
def WT(ds:List Int):Prop:=∀ k,k < ds.length->ds.getD k 0<=4
theorem WT.snoc{ds:List Int}{v:Int}(h:WT ds)(hv:v<=4):WT (ds++[v]):=fun k hk=>by
 rw[jl]
 by_cases e:k < ds.length
 ·rw[List.getElem?_append_left e,<-jl]
  exact h k e
 ·have:k=ds.length:=by
   rw[dJ,jj]at hk
   lia
  subst this
  rw[List.getElem?_append_right (bu _),Nat.sub_self]
  exact hv
def Ec(K:PySem.W.Frag):Sp:=fun vs H Q _ => ∃(a:Addr)(ns:List Int)(m:Nat),vs=[.ref a,.int (m:Int)]/\aX K H a (ns.map V.int)/\ns.length<=63/\1<=m/\m<=12 ∧
 ∀(p:Addr)(ds:List Int)(H':Hp),aM H H'->H p=none->H' p=some (.lst (ds.map V.int))->Tr.Good ds->WT ds->ds.length=m->Q (.ref p) H'
theorem kO:aN ["_law_script","_law_many","_law_depths_here","_law_k"] ["_law_script","_law_many"] (aG nA):=⟨rfl,rfl,rfl,by decide +kernel,rfl,by decide +kernel,by decide +kernel⟩
theorem Mr{f gm:Addr}{fd dm:FuncData}(F:cZ K "_law_depths" "_law_depths" nA f fd)(aW:aL P w K mg base aq 2 gm dm ["_law_script","_law_k","_law_salt"] (gF K))(aV:Binds K dm ["_law_script","_law_k","_law_salt"] [])(aU:KI K gm)(aR:mg "_law_mixed" = some (.ref gm))
  (aZ:mg "range" = none) (Rb:mg "min" = none):aL P w K mg base aq 3 f fd ["_law_script","_law_many"] (Ec K):=by
 refine F.ok kO (fun vs H Q E h=>?_) (fun cdv A outer s H vs Q E hr h=>?_)
 ·refine aK fun G_ g_=>?_
  obtain⟨a,ns,m,rfl,_⟩:=h
  refine g_ ?_;clear g_
  rfl
 refine aK fun G_ g_=>?_
 obtain⟨a,ns,m,rfl,hS,h63,m1,m12,q⟩:=h
 refine g_ ?_;clear g_
 refine⟨_,(zE (zK (i:=2) kO.nd rfl (Or.inl rfl) (yK (zA zB zD)))
  (zZ (bN PassesOwn.never rfl (qI rfl aZ (zA zB (zA (pv 1) zD))) (yJ (i:=3) kO.nd rfl (Or.inl rfl))
  (zG (yI (bz PySem.F.plainAttrs_list PySem.F.slot_list_append PySem.F.type_list_append yH (pv 2) (zA (yC yF zB (yC zY (zJ aW hr rfl aR aU aV .nil yE (zA (pv 0) (zA (yC yF zB (pv 3)) (zA zB zD)))) (yC yF (zS (BK rfl) rfl Rb PyProof.Rows.boot_min (zA (yB yU (pv 2) (yC kh (pv 3) zB) (fun _ _=>rfl)) (zA zB zD))) zB))) zD)))))
  (zG (zO (pv 2))))),?_⟩
 refine⟨zI (by show 1<=1000;decide),fun pd hpd=>?_⟩
 refine⟨fun σ' H' => ∃ dl:List Int,aM H H'/\H' pd=some (.lst (dl.map V.int))/\Tr.Good dl/\WT dl/\dl.length=m/\∃ o3:Option V,σ'=[some (.ref a),some (.int (m:Int)),some (.ref pd),o3],?_,?_⟩
 ·refine⟨_,rfl,1,(m:Int),rfl,⟨by decide,by decide,by lia,by lia⟩,?_⟩
  refine bR (fun i σ' H' => ∃ dl:List Int,aM H H'/\H' pd=some (.lst (dl.map V.int))/\Tr.Good dl/\WT dl/\dl.length=i+1/\∃ o3:Option V,σ'=[some (.ref a),some (.int (m:Int)),some (.ref pd),o3])
   ⟨[0],zF hpd _,zC,.one,(fun k hk=>by (have:k=0:=by simpa using hk);subst this;decide),rfl,none,rfl⟩ ?_ ?_
  ·rintro i σ' H2 hi aP
   refine aK fun G_ g_=>?_
   obtain⟨dl,s2,h2,good,low,hl,o3,rfl⟩:=aP
   refine g_ ?_;clear g_
   have gn:=good.nonneg i (by lia)
   have hat:oR (dl.map V.int) (1+(i:Int) - 1)=some (.int (dl.getD i 0)):=by
    rw[show (1+(i:Int)) - 1=(i:Int) by lia]
    exact Ce (by lia)
   refine⟨_,rfl,.inl ⟨rfl,_,aX.of h2⟩,_,rfl,_,rfl,bF ⟨a,ns,_,_,rfl,s2.seq hS,h63,⟨by lia,by lia⟩,⟨by decide,by decide⟩,fun y y0 y1=>?_⟩⟩
   have tp:0<=(if (3:Int) < dl.getD i 0 then 3 else dl.getD i 0)/\(if (3:Int) < dl.getD i 0 then 3 else dl.getD i 0)<=dl.getD i 0/\(if (3:Int) < dl.getD i 0 then 3 else dl.getD i 0)<=3:=by split <;> lia
   have hy0:=Int.emod_nonneg y (show (if (3:Int) < dl.getD i 0 then 3 else dl.getD i 0)+1 ≠ 0 by lia)
   have hy1:=Int.emod_lt_of_pos y (show 0 < (if (3:Int) < dl.getD i 0 then 3 else dl.getD i 0)+1 by lia)
   refine⟨_,rfl,_,rfl,bF (cz (aX.of h2) hat ⟨_,_,rfl,bF (bF ⟨(by show (0:Int) < (if (3:Int) < dl.getD i 0 then 3 else dl.getD i 0)+1;lia),_,_,rfl,rfl,pd,_,_,rfl,rfl,h2,zV (by rw[cM];lia),?_⟩)⟩)⟩
   refine⟨dl++[1+y % ((if (3:Int) < dl.getD i 0 then 3 else dl.getD i 0)+1)],cB hpd s2 _,?_,good.snoc (by lia) (by rw[hl,Nat.add_sub_cancel];lia),low.snoc (by lia),by simp [hl],_,rfl⟩
   rw[zC,jH]
   rfl
  ·rintro σ' H2 aP
   refine aK fun G_ g_=>?_
   obtain⟨dl,s2,h2,good,low,hl,o3,rfl⟩:=aP
   refine g_ ?_;clear g_
   exact⟨dl,s2,h2,good,low,by lia,o3,rfl⟩
 rintro σ' H2 aP
 refine aK fun G_ g_=>?_
 obtain⟨dl,s2,h2,good,low,hl,o3,rfl⟩:=aP
 refine g_ ?_;clear g_
 exact⟨_,rfl,q pd dl H2 s2 hpd h2 good low hl⟩
def Bd(r:Rm):Prop:=r.keeps=("" : Str) ∨ (r.keeps=("near" : Str)/\r.kind=("one" : Str)) ∨ r.keeps=("deep" : Str)
def K0(kd kp:Str):Prop:=(kp = "" ∨ kp = "near" ∨ kp = "deep")/\(kp = "near" -> kd = "one" ∨ kd = "all")
def Ju(K:PySem.W.Frag):Sp:=fun vs H Q _ => ∃(a pd ps:Addr)(ns ds sz:List Int)(e:Int),vs=[.ref a,.ref pd,.ref ps,.int e]/\aX K H a (ns.map V.int)/\ns.length<=63/\H pd=some (.lst (ds.map V.int))/\ds.length<=12/\kI H ps sz ∧
 ∀(t:Addr)(rv:List V)(rs:List Rm)(dis v8:List (List Dd))(H':Hp),aM H H'->H' t=some (.tup rv)->Ru.Ot sz.length H' rv rs dis v8->aA rs=ds->Jl rs->(∀ r∈rs,Bd r)->Q (.ref t) H'
theorem bJ:aN ["_law_script","_law_depths_here","_law_sizes","_law_events","_law_rooms_here","_law_k","_law_number","_law_kind","_law_keeps","_law_lamp","_law_ins_here","_law_outs"] ["_law_script","_law_depths_here","_law_sizes","_law_events"] (aG Bu):=⟨rfl,rfl,rfl,by decide +kernel,rfl,by decide +kernel,by decide +kernel⟩
theorem Qu{f gm gn gd gc:Addr}{fd dm dn dd dc:FuncData}(F:cZ K "_law_rooms" "_law_rooms" Bu f fd)(aW:aL P w K mg base aq 3 gm dm ["_law_script","_law_k","_law_salt"] (gF K))(aV:Binds K dm ["_law_script","_law_k","_law_salt"] [])(aU:KI K gm)(aR:mg "_law_mixed" = some (.ref gm))
  (oJ:aL P w K mg base aq 3 gn dn ["_law_k","_law_number"] Bm) (oA:Binds K dn ["_law_k","_law_number"] []) (nW:KI K gn) (nO:mg "_law_name" = some (.ref gn))
  (tV:aL P w K mg base aq 3 gd dd ["_law_script","_law_k","_law_salt","_law_sizes","_law_events"] (Bo K)) (tL:Binds K dd ["_law_script","_law_k","_law_salt","_law_sizes","_law_events"] []) (sZ:KI K gd) (sV:mg "_law_deeds" = some (.ref gd))
  (jf:aL P w K mg base aq 3 gc dc ["_law_script","_law_k"] (Bp K)) (jb:Binds K dc ["_law_script","_law_k"] []) (jY:KI K gc) (jV:mg "_law_cell_at" = some (.ref gc))
  (aZ:mg "range" = none) (aY:mg "len" = none) (aa:mg "tuple" = none):aL P w K mg base aq 4 f fd ["_law_script","_law_depths_here","_law_sizes","_law_events"] (Ju K):=by
 refine F.ok bJ (fun vs H Q E h=>?_) (fun cdv A outer s H vs Q E hr h=>?_)
 ·refine aK fun G_ g_=>?_
  obtain⟨a,pd,ps,ns,ds,sz,e,rfl,_⟩:=h
  refine g_ ?_;clear g_
  rfl
 refine aK fun G_ g_=>?_
 obtain⟨a,pd,ps,ns,ds,sz,e,rfl,hS,h63,hd,lg,hsz,q⟩:=h
 refine g_ ?_;clear g_
 refine⟨_,(zE (zK (i:=4) bJ.nd rfl (Or.inl rfl) (yK zD))
  (zZ (bN PassesOwn.never rfl (bV rfl aZ (zA (zS zN rfl aY PySem.boot_len (zA (pv 1) zD)) zD)) (yJ (i:=5) bJ.nd rfl (Or.inl rfl))
  (zE (zK (i:=6) bJ.nd rfl (Or.inl rfl) (zJ aW hr rfl aR aU aV .nil yE (zA (pv 0) (zA (yC yF zB (pv 5)) (zA zB zD)))))
  (zE (zK (i:=7) bJ.nd rfl (Or.inl rfl) zP)
  (zE (zK (i:=8) bJ.nd rfl (Or.inl rfl) zP)
  (zZ (yD (bW (PW.pt (pw_and (zL lQ (yC yF (pv 5) zB) (zS zN rfl aY PySem.boot_len (zA (pv 1) zD)) (zR _)) (yP (zL fY (yB yU (pv 1) (yC yF (pv 5) zB) (fun _ _=>rfl)) (yB yU (pv 1) (pv 5) (fun _ _=>rfl)) (zR _))))))
  (zE (zK (i:=7) bJ.nd rfl (Or.inl rfl) (yB yU (yK (zA zP (zA zP (zA zP zD)))) (yC zY (pv 6) zB) (fun _ _=>rfl)))
  (zG (zK (i:=8) bJ.nd rfl (Or.inl rfl) (yB yU (yK (zA zP (zA zP (zA zP zD)))) (yC zY (yC yL (pv 6) zB) zB) (fun _ _=>rfl)))))
  zT)
  (zZ (yD (bW (PW.pt (pw_and (zL yG (pv 7) zP (zR _)) (yP (zL yG (pv 8) zP (zR _))))))
  (zG (zK (i:=8) bJ.nd rfl (Or.inl rfl) zP))
  zT)
  (zE (zK (i:=9) bJ.nd rfl (Or.inl rfl) zP)
  (zZ (yD (zL yG (yC zY (yC yL (pv 6) zB) zB) zB (zR _))
  (zG (zK (i:=9) bJ.nd rfl (Or.inl rfl) (zJ oJ hr rfl nO nW oA .nil yE (zA (yC zY (yC yL (pv 6) zB) zB) (zA (yC yL (pv 6) zB) zD)))))
  zT)
  (zE (zK (i:=10) bJ.nd rfl (Or.inl rfl) (zJ tV hr rfl sV sZ tL .nil yE (zA (pv 0) (zA (yC yF zB (pv 5)) (zA zB (zA (pv 2) (zA (pv 3) zD)))))))
  (zE (zK (i:=11) bJ.nd rfl (Or.inl rfl) (zJ tV hr rfl sV sZ tL .nil yE (zA (pv 0) (zA (yC yF zB (pv 5)) (zA zB (zA (pv 2) (zA (pv 3) zD)))))))
  (zG (yI (bz PySem.F.plainAttrs_list PySem.F.slot_list_append PySem.F.type_list_append yH (pv 4) (zA (zW (zA (zJ oJ hr rfl nO nW oA .nil yE (zA (pv 5) (zA (yC zY (zJ jf hr rfl jV jY jb .nil yE (zA (pv 0) (zA zB zD))) zB) zD))) (zA (pv 7) (zA (yB yU (pv 1) (pv 5) (fun _ _=>rfl)) (zA (pv 8) (zA (pv 9) (zA (pv 10) (zA (pv 11) zD)))))))) zD))))))))))))))
  (zG (zO (yA zX rfl aa PyProof.Rows.boot_tuple (zA (pv 4) zD)))))),?_⟩
 have lds:(ds.map V.int).length=ds.length:=cM _
 refine⟨Nat.zero_le _,fun pr hpr=>?_⟩
 have s1:=zF hpr (.lst [])
 refine⟨fun σ' H' => ∃(vs:List V)(rs:List Rm)(dis v8:List (List Dd)),aM H H'/\H' pr=some (.lst vs)/\Ru.Ot sz.length H' vs rs dis v8/\aA rs=ds/\Jl rs/\(∀ r∈rs,Bd r)/\∃ o5 o6 o7 o8 o9 Dp FT:Option V,σ'=[some (.ref a),some (.ref pd),some (.ref ps),some (.int e),some (.ref pr),o5,o6,o7,o8,o9,Dp,FT],?_,?_⟩
 ·refine⟨_,rfl,fW rfl (.inl (aX.of (s1 _ _ hd))) ⟨_,rfl,by lia,by rw[lds];lia,?_⟩⟩
  refine bR (fun i σ' H' => ∃(vs:List V)(rs:List Rm)(dis v8:List (List Dd)),aM H H'/\H' pr=some (.lst vs)/\Ru.Ot sz.length H' vs rs dis v8/\aA rs=ds.take i/\rs.length=i/\(∀(k:Nat)(x:Rm),rs[k]? = some x->(if k+1 < ds.length/\ds.getD k 0 < ds.getD (k+1) 0 then (x.kind = "one" ∨ x.kind = "all") else x.kind = "plain")/\Bd x) ∧
   ∃ o5 o6 o7 o8 o9 Dp FT:Option V,σ'=[some (.ref a),some (.ref pd),some (.ref ps),some (.int e),some (.ref pr),o5,o6,o7,o8,o9,Dp,FT]) ⟨[],[],[],[],s1,zC,Ru.Ot.nil _,rfl,rfl,(fun k x h=>by simp at h),none,none,none,none,none,none,none,rfl⟩ ?_ ?_
  ·rintro i σ' H3 hi aP
   refine aK fun G_ g_=>?_
   obtain⟨vs,rs,dis,v8,s3,h3,hI,xT,hlen,hkd,o5,o6,o7,o8,o9,Dp,FT,rfl⟩:=aP
   refine g_ ?_;clear g_
   have hi':i < ds.length:=by
    simp only[List.length_map,Int.toNat_natCast]at hi
    exact hi
   have hd3:=s3 _ _ hd
   have hat:oR (ds.map V.int) (0+(i:Int))=some (.int (ds.getD i 0)):=by
    rw[Int.zero_add]
    exact Ce hi'
   refine⟨_,rfl,_,rfl,bF ⟨a,ns,_,_,rfl,s3.seq hS,h63,⟨by lia,by lia⟩,⟨by decide,by decide⟩,fun x x0 x1=>?_⟩⟩
   refine⟨fun σ' H4=>aM H3 H4/\∃ kd kp:Str,(if i+1 < ds.length/\ds.getD i 0 < ds.getD (i+1) 0 then (kd = "one" ∨ kd = "all") else kd = "plain")/\K0 kd kp/\σ'=[some (.ref a),some (.ref pd),some (.ref ps),some (.int e),some (.ref pr),some (.int (0+(i:Int))),some (.int x),some (.str kd),some (.str kp),o9,Dp,FT],?_,?_⟩
   ·refine⟨fun c H4=>H4=H3/\c=decide (i+1 < ds.length/\ds.getD i 0 < ds.getD (i+1) 0),?_,?_⟩
    ·refine⟨_,rfl,bF ⟨_,rfl,fW rfl (.inl (aX.of hd3)) (bF ⟨_,rfl,?_⟩)⟩⟩
     refine oZ (fun c=>?_) (fun c=>⟨rfl,?_⟩)
     ·have c':(0:Int)+(i:Int)+1 < (((ds.map V.int).length:Nat):Int):=of_decide_eq_true c
      rw[lds]at c'
      have rD:oR (ds.map V.int) (0+(i:Int)+1)=some (.int (ds.getD (i+1) 0)):=by
       rw[show (0:Int)+(i:Int)+1=((i+1:Nat):Int) by lia]
       exact Ce (by lia)
      refine⟨_,rfl,_,rfl,bF (cz (aX.of hd3) rD ⟨_,rfl,_,rfl,cz (aX.of hd3) hat (bF ⟨_,rfl,rfl,?_⟩)⟩)⟩
      have e:i+1 < ds.length:=by lia
      simp [e]
     ·have c':¬ (0:Int)+(i:Int)+1 < (((ds.map V.int).length:Nat):Int):=fun z=>c (decide_eq_true z)
      rw[lds]at c'
      have e:¬ i+1 < ds.length:=by lia
      simp [e]
    rintro c H4 ⟨rfl,hc⟩
    refine oZ (fun c1=>?_) (fun c1=>?_)
    ·rw[c1]at hc
     have hc':=of_decide_eq_true hc.symm
     refine aK fun G_ g_=>?_
     obtain⟨kd,hkm,hk1⟩:=wI (zs:=[("one" : Str),"one","all"]) (i:=x % 3) (by lia) (by show _ < (3:Int);lia)
     obtain⟨kp,hpm,hk2⟩:=wI (zs:=[("" : Str),"near","deep"]) (i:=x / 3 % 3) (by lia) (by show _ < (3:Int);lia)
     refine g_ ?_;clear g_
     refine⟨zI (by show 3<=1000;decide),fun p5 vq=>?_⟩
     have s5:=zF vq (.lst [V.str "one",V.str "one",V.str "all"])
     refine⟨_,rfl,bF ⟨(by show (0:Int) < 3;decide),cz (aX.of zC) hk1 ?_⟩⟩
     refine⟨zI (by show 3<=1000;decide),fun p6 yr=>?_⟩
     have s6:=s5.trans (zF yr (.lst [V.str "",V.str "near",V.str "deep"]))
     refine⟨_,rfl,_,_,rfl,rfl,⟨by decide,by decide⟩,_,_,rfl,rfl,(by show (0:Int) < 3;decide),p6,_,_,_,rfl,rfl,aX.of zC,hk2,s6,kd,kp,(by
      rw[if_pos hc']
      simp only[List.mem_cons,List.not_mem_nil,or_false]at hkm
      rcases hkm with h | h | h
      ·exact .inl h
      ·exact .inl h
      ·exact .inr h),?_,rfl⟩
     simp only[List.mem_cons,List.not_mem_nil,or_false]at hkm hpm
     refine⟨hpm,fun _=>?_⟩
     rcases hkm with h | h | h
     ·exact .inl h
     ·exact .inl h
     ·exact .inr h
    ·rw[Bool.eq_false_iff.mpr c1]at hc
     have hc':=of_decide_eq_false hc.symm
     exact⟨aM.refl _,_,_,(by rw[if_neg hc']),⟨.inl rfl,fun z=>absurd z (by decide +kernel)⟩,rfl⟩
   rintro σ5 H5 aP
   refine aK fun G_ g_=>?_
   obtain⟨s4,kd,kp0,qE5,hk0,rfl⟩:=aP
   refine g_ ?_;clear g_
   refine⟨fun σ' H6=>H6=H5/\∃ kp:Str,(kp = "" ∨ (kp = "near" /\ kd = "one") ∨ kp = "deep")/\σ'=[some (.ref a),some (.ref pd),some (.ref ps),some (.int e),some (.ref pr),some (.int (0+(i:Int))),some (.int x),some (.str kd),some (.str kp),o9,Dp,FT],?_,?_⟩
   ·refine⟨fun c H6=>H6=H5/\(c=false->¬ (kd=("all" : Str)/\kp0=("near" : Str))),?_,?_⟩
    ·exact⟨_,rfl,rfl,_,rfl,cW (fun c=>⟨_,rfl,rfl,_,rfl,rfl,fun z w=>absurd (by rw[w.2]) (of_decide_eq_false z)⟩) (fun c=>⟨rfl,fun _ w=>absurd (by rw[w.1]) (of_decide_eq_false c)⟩)⟩
    rintro c H6 ⟨rfl,hc⟩
    refine cW (fun c=>⟨rfl,_,.inr (.inr rfl),rfl⟩) (fun c=>⟨rfl,_,?_,rfl⟩)
    rcases hk0.1 with h | h | h
    ·exact .inl h
    ·rcases hk0.2 h with h2 | h2
     ·exact .inr (.inl ⟨h,h2⟩)
     ·exact absurd ⟨h2,h⟩ (hc c)
    ·exact .inr (.inr h)
   rintro σ6 H6 aP
   refine aK fun G_ g_=>?_
   obtain⟨rfl,kp,hkp,rfl⟩:=aP
   refine g_ ?_;clear g_
   refine⟨fun σ' H7=>aM H6 H7/\∃ lp:Str,σ'=[some (.ref a),some (.ref pd),some (.ref ps),some (.int e),some (.ref pr),some (.int (0+(i:Int))),some (.int x),some (.str kd),some (.str kp),some (.str lp),Dp,FT],?_,?_⟩
   ·refine⟨_,rfl,bF ⟨⟨by decide,by decide⟩,_,_,rfl,rfl,(by show (0:Int) < 3;decide),rfl,_,rfl,cW (fun c=>?_) (fun c=>⟨aM.refl _,_,rfl⟩)⟩⟩
    exact⟨_,rfl,bF ⟨⟨by decide,by decide⟩,_,_,rfl,rfl,(by show (0:Int) < 3;decide),_,rfl,bF ⟨⟨by decide,by decide⟩,_,_,rfl,fun z H7 s7=>⟨s7,z,rfl⟩⟩⟩⟩
   rintro σ7 H7 aP
   refine aK fun G_ g_=>?_
   obtain⟨s7,lp,rfl⟩:=aP
   refine g_ ?_;clear g_
   have s37:=(s3.trans s4).trans s7
   refine⟨_,rfl,_,rfl,bF ⟨_,rfl,_,rfl,a,ps,ns,sz,_,_,_,rfl,s37.seq hS,h63,⟨by lia,by lia⟩,⟨by decide,by decide⟩,hsz.mono s37,fun vi di H8 s8 hdi oki ldi=>?_⟩⟩
   have s38:=s37.trans s8
   refine⟨_,rfl,_,rfl,bF ⟨_,rfl,_,rfl,a,ps,ns,sz,_,_,_,rfl,s38.seq hS,h63,⟨by lia,by lia⟩,⟨by decide,by decide⟩,hsz.mono s38,fun vo dO H9 s9 hdo oko ldo=>?_⟩⟩
   have s39:=s38.trans s9
   have h9:=((s4.trans s7).trans (s8.trans s9)) _ _ h3
   refine⟨_,rfl,.inl ⟨rfl,_,aX.of h9⟩,_,rfl,_,rfl,a,ns,_,rfl,s39.seq hS,h63,fun cv=>?_⟩
   refine (bF ⟨(by show (0:Int) < 997;decide),_,_,rfl,fun y Je Ek=>?_⟩)
   have t10:=((s4.trans s7).trans (s8.trans s9)).trans Ek
   have h10:=t10 _ _ h3
   refine⟨_,rfl,_,rfl,_,rfl,cz (aX.of (t10 _ _ hd3)) hat ⟨_,rfl,_,rfl,_,rfl,_,rfl,zI (by show 7<=1000;decide),fun p7 XH=>?_⟩⟩
   have u3:=zF XH (.tup [.str y,.str kd,.int (ds.getD i 0),.str kp,.str lp,vi,vo])
   have h7:=u3 _ _ h10
   have lv:=hI.inn.length
   have kl:=aF.lst h7 (.lst (vs++[.ref p7]))
   refine⟨pr,_,_,rfl,rfl,h7,zV (by lia),vs++[.ref p7],rs++[⟨y,kd,ds.getD i 0,kp,lp,vi,vo⟩],dis++[di],v8++[dO],cB hpr ((s3.trans t10).trans u3) _,zC,Ru.Ot.snoc (hI.mono ((aF.of (t10.trans u3)).trans kl)) (r:=⟨y,kd,ds.getD i 0,kp,lp,vi,vo⟩) ⟨p7,rfl,kl _ _ zC⟩ (hdi.mono ((aF.of ((s9.trans Ek).trans u3)).trans kl)) (hdo.mono ((aF.of (Ek.trans u3)).trans kl)) ⟨oki,ldi⟩ ⟨oko,ldo⟩,?_,by simp [hlen],fun k x hx=>?_,_,_,_,_,_,_,_,rfl⟩
   ·unfold aA at xT ⊢
    rw[jH,xT,gB,cj hi',jl,cj hi']
    rfl
   ·by_cases hk:k < rs.length
    ·rw[List.getElem?_append_left hk]at hx
     exact hkd k x hx
    ·have hk':k=rs.length:=by
      have:=(yZ.mp hx).1
      simp only[List.length_append,List.length_singleton]at this
      lia
     subst hk'
     rw[List.getElem?_append_right (bu _)]at hx
     simp at hx
     subst hx
     rw[hlen]
     exact⟨qE5,hkp⟩
  ·rintro σ' H3 aP
   refine aK fun G_ g_=>?_
   obtain⟨vs,rs,dis,v8,s3,h3,hI,xT,hlen,hkd,r⟩:=aP
   refine g_ ?_;clear g_
   have e:(((ds.map V.int).length:Nat):Int).toNat=ds.length:=by simp
   rw[e]at xT hlen
   rw[tW (bu _)]at xT
   refine⟨vs,rs,dis,v8,s3,h3,hI,xT,fun k x hx=>?_,fun x hx=>?_,r⟩
   ·rw[xT,hlen]
    exact (hkd k x hx).1
   ·obtain⟨k,hk⟩:=List.getElem?_of_mem hx
    exact (hkd k x hk).2
 rintro σ' H3 aP
 refine aK fun G_ g_=>?_
 obtain⟨vs,rs,dis,v8,s3,h3,hI,xT,hfit,hkf,o5,o6,o7,o8,o9,Dp,FT,rfl⟩:=aP
 refine g_ ?_;clear g_
 refine⟨_,rfl,pr,_,rfl,.inl ⟨aX.of h3,fun t ht=>?_⟩⟩
 exact q t vs rs dis v8 _ (s3.trans (zF ht _)) zC (hI.mono (aF.new ht _)) xT hfit hkf
end
end vM
namespace vM
open PySem L2 mR oU tZ yd mO
open Ru (Wy Dx yX qj)
def gV:Option Int->V
 | none=>.non
 | some j=>.int j
def Ja(n:Nat)(wy:Str)(g:Option Int):Prop:=(wy=("stay" : Str)/\g=none) ∨ ((wy=("to" : Str) ∨ wy=("back" : Str))/\∃ j:Int,g=some j/\0<=j/\j < (n:Int))
def U4(n nb:Nat)(d:Dx):Prop:=d.room < n/\d.way.gl < n/\d.g.ok nb/\d.g.ht<=3/\(∀ x∈d.dd,x.ok nb)/\d.dd.length<=8
theorem Ja.wy{n:Nat}{w:Str}{g:Option Int}(h:Ja n w g)(n0:0 < n):∃ y:Wy,y.tx=w/\y.gv=gV g/\y.gl < n:=by
 rcases h with ⟨rfl,rfl⟩ | ⟨h,j,rfl,j0,j1⟩
 ·exact⟨.stay,rfl,rfl,n0⟩
 ·have e:((j.toNat:Nat):Int)=j:=Int.toNat_of_nonneg j0
  rcases h with rfl | rfl
  ·exact⟨.to j.toNat,rfl,by show V.int ((j.toNat:Nat):Int)=V.int j;rw[e],by show j.toNat < n;lia⟩
  ·exact⟨.back j.toNat,rfl,by show V.int ((j.toNat:Nat):Int)=V.int j;rw[e],by show j.toNat < n;lia⟩
def K1(K:PySem.W.Frag):Sp:=fun vs H Q _ => ∃(a t ps:Addr)(ns sz:List Int)(rs:List Rm)(m:Nat)(e:Int),vs=[.ref a,.int (m:Int),.ref t,.ref ps,.int e]/\aX K H a (ns.map V.int)/\ns.length<=63/\m<=12/\cD H t rs/\1<=rs.length/\rs.length<=12/\kI H ps sz/\0<=e ∧
 ∀(p:Addr)(dv:List V)(ds:List Dx)(H':Hp),aM H H'->H' p=some (.tup dv)->Al (yX H') dv ds->(∀ d∈ds,U4 rs.length sz.length d)->ds.length<=12->(ds ≠ []->0 < e)->Q (.ref p) H'
section
variable{P:Program}{w:World}{K:PySem.W.Frag}{mg:Str->Option Value}{base:Heap}
theorem bD:aN ["_law_script","_law_many","_law_rooms_here","_law_sizes","_law_events","_law_doors_here","_law_k","_law_number","_law_goal","_law_way","_law_keepers","_law_guard_here","_law_deeds_here","_law_event"] ["_law_script","_law_many","_law_rooms_here","_law_sizes","_law_events"] (aG lK):=⟨rfl,rfl,rfl,by decide +kernel,rfl,by decide +kernel,by decide +kernel⟩
theorem R7{f gm gg gd:Addr}{fd dm dg dd:FuncData}(F:cZ K "_law_doors" "_law_doors" lK f fd)(aW:aL P w K mg base aq 3 gm dm ["_law_script","_law_k","_law_salt"] (gF K))(aV:Binds K dm ["_law_script","_law_k","_law_salt"] [])(aU:KI K gm)(aR:mg "_law_mixed" = some (.ref gm))
  (je:aL P w K mg base aq 3 gg dg ["_law_number","_law_rooms_here","_law_boxes","_law_high"] (mY 3)) (dD:Binds K dg ["_law_number","_law_rooms_here","_law_boxes","_law_high"] []) (jX:KI K gg) (cu:mg "_law_guard" = some (.ref gg))
  (tV:aL P w K mg base aq 3 gd dd ["_law_script","_law_k","_law_salt","_law_sizes","_law_events"] (Bo K)) (tL:Binds K dd ["_law_script","_law_k","_law_salt","_law_sizes","_law_events"] []) (sZ:KI K gd) (sV:mg "_law_deeds" = some (.ref gd))
  (aZ:mg "range" = none) (aY:mg "len" = none) (aa:mg "tuple" = none) (oO:mg "int" = none):aL P w K mg base aq 4 f fd ["_law_script","_law_many","_law_rooms_here","_law_sizes","_law_events"] (K1 K):=by
 refine F.ok bD (fun vs H Q E h=>?_) (fun cdv A outer s H vs Q E hr h=>?_)
 ·refine aK fun G_ g_=>?_
  obtain⟨a,t,ps,ns,sz,rs,m,e,rfl,_⟩:=h
  refine g_ ?_;clear g_
  rfl
 refine aK fun G_ g_=>?_
 obtain⟨a,t,ps,ns,sz,rs,m,e,rfl,hS,h63,m12,hR,l1,NZ,hsz,e0,q⟩:=h
 refine g_ ?_;clear g_
 refine⟨_,(zE (zK (i:=5) bD.nd rfl (Or.inl rfl) (yK zD))
  (zZ (bN PassesOwn.never rfl (bV rfl aZ (zA (yC gM (pv 1) (yA uV rfl oO PyProof.Rows.boot_int (zA (gK fY (pv 4) zB (zR _)) zD))) zD)) (yJ (i:=6) bD.nd rfl (Or.inl rfl))
  (zE (zK (i:=7) bD.nd rfl (Or.inl rfl) (zJ aW hr rfl aR aU aV .nil yE (zA (pv 0) (zA (yC yF zB (pv 6)) (zA zB zD)))))
  (zE (zK (i:=8) bD.nd rfl (Or.inl rfl) (yC zY (yC yL (pv 7) zB) (zS zN rfl aY PySem.boot_len (zA (pv 2) zD))))
  (zE (zK (i:=9) bD.nd rfl (Or.inl rfl) (yB yU (yK (zA zP (zA zP (zA zP (zA zP (zA zP zD)))))) (yC zY (pv 7) zB) (fun _ _=>rfl)))
  (zE (iJ (i:=10) (bY:=[(2,"_law_rooms_here")]) rfl bD.nd rfl (Or.inl rfl) (show bQ (aG lK) ["_law_script","_law_many","_law_rooms_here","_law_sizes","_law_events","_law_doors_here","_law_k","_law_number","_law_goal","_law_way","_law_keepers","_law_guard_here","_law_deeds_here","_law_event"] _ _ _ from ⟨rfl,rfl,by decide +kernel,by decide +kernel,by decide +kernel,by decide +kernel,by decide +kernel⟩) (bV rfl aZ (zA (zS zN rfl aY PySem.boot_len (zA (pv 2) zD)) zD)) (fun _ _ _ _ _ _=>bU (zL Ez (yB (r:=fj K) zH (yB (r:=fj K) zH (pv 1) (pv 0) (fun _ _=>rfl)) zB (fun _ _=>rfl)) zP (zR _))) (fun _ _ _ _ _ _=>(pv 0)))
  (zZ (yD (bW (PW.pt (pw_and (zL yG (pv 9) zP (zR _)) (yP (zL yG (zS zN rfl aY PySem.boot_len (zA (pv 10) zD)) zB (zR _))))))
  (zG (zK (i:=9) bD.nd rfl (Or.inl rfl) zP))
  zT)
  (zZ (yD (zL yG (pv 9) zP (zR _))
  (zG (zK (i:=8) bD.nd rfl (Or.inl rfl) (yB yU (pv 10) (yC zY (pv 8) (zS zN rfl aY PySem.boot_len (zA (pv 10) zD))) (fun _ _=>rfl))))
  zT)
  (zZ (yD (zL yG (pv 9) zP (zR _))
  (zG (zK (i:=8) bD.nd rfl (Or.inl rfl) fV))
  zT)
  (zE (zK (i:=11) bD.nd rfl (Or.inl rfl) (zW (zA zP zD)))
  (zZ (yD (zL yG (yC zY (yC yL (pv 7) zB) zB) zB (zR _))
  (zG (zK (i:=11) bD.nd rfl (Or.inl rfl) (zJ je hr rfl cu jX dD .nil yE (zA (zJ aW hr rfl aR aU aV .nil yE (zA (pv 0) (zA (yC yF zB (pv 6)) (zA zB zD)))) (zA (zS zN rfl aY PySem.boot_len (zA (pv 2) zD)) (zA (zS zN rfl aY PySem.boot_len (zA (pv 3) zD)) (zA zB zD)))))))
  zT)
  (zE (zK (i:=12) bD.nd rfl (Or.inl rfl) (zJ tV hr rfl sV sZ tL .nil yE (zA (pv 0) (zA (yC yF zB (pv 6)) (zA zB (zA (pv 3) (zA (pv 4) zD)))))))
  (zE (zK (i:=13) bD.nd rfl (Or.inl rfl) (yC zY (yC yL (pv 7) zB) zB))
  (zZ (yD (zL fY (pv 4) zB (zR _))
  (zG (zK (i:=13) bD.nd rfl (Or.inl rfl) (zJ aW hr rfl aR aU aV .nil yE (zA (pv 0) (zA (yC yF zB (pv 6)) (zA zB zD))))))
  zT)
  (zG (yI (bz PySem.F.plainAttrs_list PySem.F.slot_list_append PySem.F.type_list_append yH (pv 5) (zA (zW (zA (yC zY (zJ aW hr rfl aR aU aV .nil yE (zA (pv 0) (zA (yC yF zB (pv 6)) (zA zB zD)))) (zS zN rfl aY PySem.boot_len (zA (pv 2) zD))) (zA (yC zY (pv 13) (pv 4)) (zA (pv 11) (zA (pv 12) (zA (pv 9) (zA (pv 8) zD))))))) zD)))))))))))))))))
  (zG (zO (yA zX rfl aa PyProof.Rows.boot_tuple (zA (pv 5) zD)))))),?_⟩
 refine aK fun G_ g_=>?_
 obtain⟨rv,htr,hrs⟩:=hR
 refine g_ ?_;clear g_
 have X3:=hrs.length
 refine⟨Nat.zero_le _,fun pr hpr=>?_⟩
 have s1:=zF hpr (.lst [])
 refine⟨fun σ' H' => ∃(vs:List V)(ds:List Dx),aM H H'/\H' pr=some (.lst vs)/\Al (yX H') vs ds/\(∀ d∈ds,U4 rs.length sz.length d)/\ds.length<=12/\(ds ≠ []->0 < e)/\∃ o6 o7 o8 o9 Dp FT Dn CP:Option V,σ'=[some (.ref a),some (.int (m:Int)),some (.ref t),some (.ref ps),some (.int e),some (.ref pr),o6,o7,o8,o9,Dp,FT,Dn,CP],?_,?_⟩
 ·have hN:((m:Int) * (if decide (0 < e)=true then 1 else 0)).toNat<=m/\(0 < ((m:Int) * (if decide (0 < e)=true then 1 else 0)).toNat->0 < e)/\((m:Int) * (if decide (0 < e)=true then 1 else 0))<=12/\0<=((m:Int) * (if decide (0 < e)=true then 1 else 0)):=by
   by_cases c:0 < e
   ·rw[if_pos (decide_eq_true c)]
    exact⟨by lia,fun _=>c,by lia,by lia⟩
   ·rw[if_neg (by rw[decide_eq_false c];exact mU)]
    exact⟨by lia,fun z=>by lia,by lia,by lia⟩
  refine⟨_,rfl,_,rfl,bF (.inr ⟨_,rfl,bF ⟨qu (by lia) (by lia),_,rfl,by lia,?_,?_⟩⟩)⟩
  ·exact Int.lt_of_le_of_lt hN.2.2.1 (by decide)
  refine bR (fun i σ' H' => ∃(vs:List V)(ds:List Dx),aM H H'/\H' pr=some (.lst vs)/\Al (yX H') vs ds/\(∀ d∈ds,U4 rs.length sz.length d)/\ds.length=i/\∃ o6 o7 o8 o9 Dp FT Dn CP:Option V,σ'=[some (.ref a),some (.int (m:Int)),some (.ref t),some (.ref ps),some (.int e),some (.ref pr),o6,o7,o8,o9,Dp,FT,Dn,CP])
   ⟨[],[],s1,zC,.nil,(fun d h=>by cases h),rfl,none,none,none,none,none,none,none,none,rfl⟩ ?_ (fun σ' H' ⟨vs,ds,h1,h2,h3,h4,h5,h6⟩=>⟨vs,ds,h1,h2,h3,h4,by have:=hN.1;lia,(fun z=>hN.2.1 (by have:=List.length_pos_iff.mpr z;lia)),h6⟩)
  rintro i σ' H3 hi aP
  refine aK fun G_ g_=>?_
  obtain⟨vs,ds,s3,h3,hA,hfit,hlen,o6,o7,o8,o9,Dp,FT,Dn,CP,rfl⟩:=aP
  refine g_ ?_;clear g_
  have him:i < 12:=by
   have:=hN.1
   lia
  have ep:0 < e:=hN.2.1 (by lia)
  refine⟨_,rfl,_,rfl,bF ⟨a,ns,_,_,rfl,s3.seq hS,h63,⟨by lia,by lia⟩,⟨by decide,by decide⟩,fun x x0 x1=>?_⟩⟩
  have lp:(0:Int) < ((rv.length:Nat):Int):=by lia
  have g00:=Int.emod_nonneg (x / 15) (show ((rv.length:Nat):Int) ≠ 0 by lia)
  have g01:=Int.emod_lt_of_pos (x / 15) lp
  refine⟨_,rfl,bF ⟨⟨by decide,by decide⟩,_,rfl,fW rfl (.inr (aH.of (s3 _ _ htr))) (bF ⟨lp,?_⟩)⟩⟩
  refine aK fun G_ g_=>?_
  obtain⟨w0,hw0,qE9⟩:=wI (zs:=[("to" : Str),"to","back","back","stay"]) (i:=x % 5) (by lia) (by show _ < (5:Int);lia)
  refine g_ ?_;clear g_
  refine⟨zI (by show 5<=1000;decide),fun p5 vq=>⟨_,rfl,bF ⟨(by show (0:Int) < 5;decide),cz (aX.of zC) qE9 ?_⟩⟩⟩
  have s5:=zF vq (.lst [V.str "to",V.str "to",V.str "back",V.str "back",V.str "stay"])
  generalize hH5:upd H3 p5 (.lst [V.str "to",V.str "to",V.str "back",V.str "back",V.str "stay"])=H5 at s5 ⊢
  have Dm:=s3.trans s5
  refine⟨_,rfl,fW rfl (.inr (aH.of (Dm _ _ htr))) ⟨_,rfl,by lia,by lia,?_⟩⟩
  refine nu (fun i' acc H'=>H'=H5/\∃ js:List Nat,acc=aB js/\js.length<=i'/\(∀ j∈js,j < rs.length)) ⟨rfl,[],rfl,bu _,fun j z=>by cases z⟩ (fun i' acc H' hi2 ⟨e1,js,e2,e3,e4⟩=>?_) (fun acc H' ⟨e1,js,e2,e3,e4⟩ p2 hp2=>?_)
  ·subst e1 e2
   have hj:i' < rs.length:=by lia
   refine aK fun G_ g_=>?_
   obtain⟨v2,hv2,a2,rfl,ha2⟩:=hrs.get (cj hj)
   refine g_ ?_;clear g_
   have rD:oR rv (0+(i':Int))=some (.ref a2):=by
    rw[Int.zero_add]
    exact yQ hv2
   refine⟨_,rfl,_,rfl,aD (aH.of (Dm _ _ htr)) rD (aD (aH.of (Dm _ _ ha2)) rfl ⟨rfl,_,rfl,?_⟩)⟩
   refine cW (fun c=>?_) (fun c=>⟨rfl,js,rfl,by lia,e4⟩)
   refine⟨_,rfl,zV (by rw[zU];lia),rfl,js++[i'],?_,by simp;lia,fun j z=>?_⟩
   ·rw[<-iB,Int.zero_add]
   ·rcases cX.mp z with z | z
    ·exact e4 j z
    ·rw[cJ.mp z]
     exact hj
  subst e1 e2
  have s6:=zF hp2 (.lst (aB js))
  have h6:upd H' p2 (.lst (aB js)) p2=some (.lst (aB js)):=zC
  generalize hH6:upd H' p2 (.lst (aB js))=H6 at s6 h6 ⊢
  have s36:=Dm.trans s6
  have ln:=zU js
  refine⟨fun σ' H'=>H'=H6/\∃ wy:Str,(wy = "to" ∨ wy = "back" ∨ wy = "stay")/\(wy = "back" -> js ≠ [])/\σ'=[some (.ref a),some (.int (m:Int)),some (.ref t),some (.ref ps),some (.int e),some (.ref pr),some (.int (0+(i:Int))),some (.int x),some (.int (x / 15 % ((rv.length:Nat):Int))),some (.str wy),some (.ref p2),FT,Dn,CP],?_,?_⟩
  ·refine⟨fun c H'=>H'=H6/\(c=false->w0 = "back" -> js ≠ []),?_,?_⟩
   ·refine⟨_,rfl,rfl,_,rfl,cW (fun c=>?_) (fun c=>⟨rfl,fun _ z=>?_⟩)⟩
    ·exact⟨_,rfl,p2,_,rfl,.inl (aX.of h6),rfl,_,rfl,rfl,fun z _ z2=>by
      subst z2
      exact of_decide_eq_false z rfl⟩
    ·exact absurd (by rw[z]) (of_decide_eq_false c)
   rintro c H' ⟨rfl,hc⟩
   refine cW (fun c=>?_) (fun c=>?_)
   ·exact⟨rfl,_,.inl rfl,fun z=>absurd z (by decide),rfl⟩
   ·refine⟨rfl,w0,?_,hc c,rfl⟩
    simp only[List.mem_cons,List.not_mem_nil,or_false]at hw0
    rcases hw0 with h | h | h | h | h
    ·exact .inl h
    ·exact .inl h
    ·exact .inr (.inl h)
    ·exact .inr (.inl h)
    ·exact .inr (.inr h)
  rintro σ7 H7 aP
  refine aK fun G_ g_=>?_
  obtain⟨rfl,wy,hwy,hne,rfl⟩:=aP
  refine g_ ?_;clear g_
  refine⟨fun σ' H'=>H'=H7/\∃ g:Int,0<=g/\g < (rs.length:Int)/\σ'=[some (.ref a),some (.int (m:Int)),some (.ref t),some (.ref ps),some (.int e),some (.ref pr),some (.int (0+(i:Int))),some (.int x),some (.int g),some (.str wy),some (.ref p2),FT,Dn,CP],?_,?_⟩
  ·refine⟨_,rfl,rfl,_,rfl,cW (fun c=>?_) (fun c=>⟨rfl,_,g00,by lia,rfl⟩)⟩
   have c':V.str wy=V.str "back" := of_decide_eq_true c
   have wb:wy = "back" := by injection c'
   have ljs:0 < js.length:=List.length_pos_iff.mpr (hne wb)
   refine aK fun G_ g_=>?_
   obtain⟨pk,hpm,Cr⟩:=xK (os:=js) (i:=(x / 15 % ((rv.length:Nat):Int)) % (((aB js).length:Nat):Int)) (Int.emod_nonneg _ (by lia)) (by
     have:=Int.emod_lt_of_pos (x / 15 % ((rv.length:Nat):Int)) (show (0:Int) < (((aB js).length:Nat):Int) by lia)
     lia)
   refine g_ ?_;clear g_
   refine⟨_,rfl,_,rfl,_,rfl,fW rfl (.inl (aX.of h6)) (bF ⟨(by show (0:Int) < (((aB js).length:Nat):Int);lia),cz (aX.of h6) Cr ⟨rfl,_,by lia,?_,rfl⟩⟩)⟩
   have:=e4 pk hpm
   lia
  rintro σ8 H8 aP
  refine aK fun G_ g_=>?_
  obtain⟨rfl,g,g0,g1,rfl⟩:=aP
  refine g_ ?_;clear g_
  refine⟨fun σ' H'=>H'=H8/\∃ gv:Option Int,Ja rs.length wy gv/\σ'=[some (.ref a),some (.int (m:Int)),some (.ref t),some (.ref ps),some (.int e),some (.ref pr),some (.int (0+(i:Int))),some (.int x),some (gV gv),some (.str wy),some (.ref p2),FT,Dn,CP],?_,?_⟩
  ·refine⟨_,rfl,rfl,_,rfl,cW (fun c=>?_) (fun c=>?_)⟩
   ·have c':V.str wy=V.str "stay" := of_decide_eq_true c
    exact⟨rfl,none,.inl ⟨by injection c',rfl⟩,rfl⟩
   ·refine⟨rfl,some g,.inr ⟨?_,g,rfl,g0,g1⟩,rfl⟩
    rcases hwy with h | h | h
    ·exact .inl h
    ·exact .inr h
    ·exact absurd (by rw[h]) (of_decide_eq_false c)
  rintro σ9 H9 aP
  refine aK fun G_ g_=>?_
  obtain⟨rfl,gv,hgv,rfl⟩:=aP
  refine g_ ?_;clear g_
  refine⟨zI (by show 1<=1000;decide),fun p9 hp9=>?_⟩
  have s9:=zF hp9 (.tup [V.str "yes"])
  have g9:jn (upd H9 p9 (.tup [V.str "yes"])) (.ref p9) .yes:=.yes zC
  generalize hH10:upd H9 p9 (.tup [V.str "yes"])=Je at s9 g9 ⊢
  have s39:=s36.trans s9
  refine⟨fun σ' H'=>aM Je H'/\∃(gd:V)(g:Gd),jn H' gd g/\g.ok sz.length/\g.ht<=3/\σ'=[some (.ref a),some (.int (m:Int)),some (.ref t),some (.ref ps),some (.int e),some (.ref pr),some (.int (0+(i:Int))),some (.int x),some (gV gv),some (.str wy),some (.ref p2),some gd,Dn,CP],?_,?_⟩
  ·refine⟨_,rfl,bF ⟨⟨by decide,by decide⟩,_,_,rfl,rfl,(by show (0:Int) < 2;decide),rfl,_,rfl,cW (fun c=>?_) (fun c=>⟨aM.refl _,_,_,g9,trivial,(by show 1<=3;decide),rfl⟩)⟩⟩
   refine⟨_,rfl,_,rfl,bF ⟨a,ns,_,_,rfl,s39.seq hS,h63,⟨by lia,by lia⟩,⟨by decide,by decide⟩,fun y y0 y1=>?_⟩⟩
   exact⟨_,rfl,fW rfl (.inr (aH.of (s39 _ _ htr))) ⟨_,rfl,fW rfl (.inl (aX.of (hsz.mono s39).1)) ⟨_,_,_,sz.length,(by rw[cM];rfl),lp,by decide,by decide,fun v g H' s' hg Pg ght=>⟨s',v,g,hg,Pg,(by lia),rfl⟩⟩⟩⟩
  rintro σ10 Tq aP
  refine aK fun G_ g_=>?_
  obtain⟨Ek,gd,gg,hgd,Pg,ght,rfl⟩:=aP
  refine g_ ?_;clear g_
  have Xq:=s39.trans Ek
  refine⟨_,rfl,_,rfl,bF ⟨_,rfl,_,rfl,a,ps,ns,sz,_,_,_,rfl,Xq.seq hS,h63,⟨by lia,by lia⟩,⟨by decide,by decide⟩,hsz.mono Xq,fun vd dd Pn s12 hdd okd ldd=>?_⟩⟩
  refine⟨_,rfl,bF ⟨⟨by decide,by decide⟩,_,_,rfl,rfl,(by show (0:Int) < 3;decide),?_⟩⟩
  refine⟨fun σ' H'=>Pn=H'/\∃ ev:Int,σ'=[some (.ref a),some (.int (m:Int)),some (.ref t),some (.ref ps),some (.int e),some (.ref pr),some (.int (0+(i:Int))),some (.int x),some (gV gv),some (.str wy),some (.ref p2),some gd,some vd,some (.int ev)],?_,?_⟩
  ·refine⟨_,rfl,bF ⟨_,rfl,cW (fun c=>?_) (fun c=>⟨rfl,_,rfl⟩)⟩⟩
   exact⟨_,rfl,_,rfl,bF ⟨a,ns,_,_,rfl,(Xq.trans s12).seq hS,h63,⟨by lia,by lia⟩,⟨by decide,by decide⟩,fun y y0 y1=>⟨rfl,y,rfl⟩⟩⟩
  rintro _ _ aP
  refine aK fun G_ g_=>?_
  obtain⟨rfl,ev,rfl⟩:=aP
  refine g_ ?_;clear g_
  have t12:aM H3 Pn:=(((s5.trans s6).trans s9).trans Ek).trans s12
  have Xp:=s3.trans t12
  have h12:=t12 _ _ h3
  refine⟨_,rfl,.inl ⟨rfl,_,aX.of h12⟩,_,rfl,_,rfl,bF ⟨a,ns,_,_,rfl,Xp.seq hS,h63,⟨by lia,by lia⟩,⟨by decide,by decide⟩,fun y y0 y1=>?_⟩⟩
  refine⟨_,rfl,fW rfl (.inr (aH.of (Xp _ _ htr))) (bF ⟨lp,?_⟩)⟩
  refine⟨_,rfl,_,rfl,bF ⟨(by show (0:Int) < e;exact ep),_,rfl,_,rfl,_,rfl,_,rfl,zI (by show 6<=1000;decide),fun Ew S9=>?_⟩⟩
  refine aK fun G_ g_=>?_
  obtain⟨wy2,w1,w2,w3⟩:=hgv.wy (show 0 < rs.length by lia)
  refine g_ ?_;clear g_
  have y2:=Int.emod_nonneg y (show ((rv.length:Nat):Int) ≠ 0 by lia)
  have y3:=Int.emod_lt_of_pos y lp
  have Q0:=zF S9 (.tup [.int (y % ((rv.length:Nat):Int)),.int (ev % e),gd,vd,.str wy,gV gv])
  have i13:upd Pn Ew (.tup [.int (y % ((rv.length:Nat):Int)),.int (ev % e),gd,vd,.str wy,gV gv]) Ew=some (.tup [.int (((y % ((rv.length:Nat):Int)).toNat:Nat):Int),.int (ev % e),gd,vd,.str wy2.tx,wy2.gv]):=by
   rw[zC,w1,w2,Int.toNat_of_nonneg y2]
  have h13:=Q0 _ _ h12
  generalize upd Pn Ew (.tup [.int (y % ((rv.length:Nat):Int)),.int (ev % e),gd,vd,.str wy,gV gv])=Wa at Q0 i13 h13 ⊢
  have lv:=hA.length
  have kl:=aF.lst h13 (.lst (vs++[.ref Ew]))
  refine⟨pr,_,_,rfl,rfl,h13,zV (by lia),vs++[.ref Ew],ds++[⟨(y % ((rv.length:Nat):Int)).toNat,ev % e,gg,dd,wy2⟩],cB hpr (Xp.trans Q0) _,zC,Al.snoc (hA.mono fun _ _ z=>z.mono ((aF.of (t12.trans Q0)).trans kl)) ⟨Ew,gd,vd,rfl,kl _ _ i13,hgd.mono ((aF.of (s12.trans Q0)).trans kl),hdd.mono ((aF.of Q0).trans kl)⟩,fun d hd=>?_,by simp [hlen],_,_,_,_,_,_,_,_,rfl⟩
  rcases cX.mp hd with hd | hd
  ·exact hfit d hd
  ·rw[cJ.mp hd]
   exact⟨by show (y % ((rv.length:Nat):Int)).toNat < rs.length;lia,w3,Pg,ght,okd,ldd⟩
 rintro σ' H3 aP
 refine aK fun G_ g_=>?_
 obtain⟨vs,ds,s3,h3,hA,hfit,hlen,hev,o6,o7,o8,o9,Dp,FT,Dn,CP,rfl⟩:=aP
 refine g_ ?_;clear g_
 refine⟨_,rfl,pr,_,rfl,.inl ⟨aX.of h3,fun p hp=>?_⟩⟩
 exact q p vs ds _ (s3.trans (zF hp _)) zC (hA.mono fun _ _ z=>z.mono (aF.new hp _)) hfit hlen hev
end
end vM
namespace vM
open PySem L2 mR oU tZ yd mO
open Ru (Wy Dx yX qj ig za vN Xb)
theorem int_at{zs:List Int}{i:Int}(h0:0<=i)(h1:i < (zs.length:Int)):∃ z∈zs,oR (zs.map V.int) i=some (.int z):=by
 obtain⟨v,hv,e⟩:=mJ (xs:=zs.map V.int) (i:=i) h0 (by rw[cM];exact h1)
 obtain⟨z,hz,rfl⟩:=fO.mp hv
 exact⟨z,hz,e⟩
def Gr(H:Hp)(v:V)(z:Int × Int):Prop:=∃(a:Addr)(nm:Str),v = .ref a/\H a=some (.tup [.str nm,.int z.1,.int z.2])
theorem Gr.mono{H H':Hp}{v:V}{r:Int × Int}(x:Gr H v r)(k:aF H H'):Gr H' v r:=by
 obtain⟨a,nm,e,h⟩:=x
 exact⟨a,nm,e,k _ _ h⟩
theorem qCB{H:Hp}{vs:List V}{bs:List (Int × Int)}(x:Al (Gr H) vs bs):Al (Ru.PL H) vs (bs.map (·.1)):=by
 induction x with
 | nil=>exact .nil
 | cons h _ ih=>
  obtain⟨a,nm,e,h⟩:=h
  exact .cons ⟨a,_,_,e,h⟩ ih
def Wg(H:Hp)(p:Addr)(c:ig)(bs:List (Int × Int))(ne:Nat):Prop:=∃(pb pn t pd:Addr)(bv nv rv dv:List V),H p=some (.tup [.str c.od,.int (c.lb:Int),.int (c.tn:Int),.ref pb,.ref pn,.ref t,.ref pd])/\H pb=some (.tup bv)/\Al (Gr H) bv bs/\H pn=some (.tup nv)/\nv.length=ne/\H t=some (.tup rv)/\j9 H rv c.rs/\Xb H c.rs c.di c.dO/\H pd=some (.tup dv)/\Al (yX H) dv c.ds
theorem Wg.mono{H H':Hp}{p:Addr}{c:ig}{bs:List (Int × Int)}{ne:Nat}(x:Wg H p c bs ne)(k:aF H H'):Wg H' p c bs ne:=by
 obtain⟨pb,pn,t,pd,bv,nv,rv,dv,h1,h2,h3,h4,h5,h6,h7,h8,h9,h10⟩:=x
 exact⟨pb,pn,t,pd,bv,nv,rv,dv,k _ _ h1,k _ _ h2,h3.mono fun _ _ z=>z.mono k,k _ _ h4,h5,k _ _ h6,h7.mono k,h8.mono k,k _ _ h9,h10.mono fun _ _ z=>z.mono k⟩
structure Gq(c:ig)(bs:List (Int × Int))(ne:Nat):Prop where
 ok:vN c
 sz:c.sz=bs.map (·.1)
 st:∀ b∈bs,0<=b.2/\b.2 < b.1
 fit:Jl c.rs
 low:WT (aA c.rs)
 l10:c.rs.length<=10
 g:∀ d∈c.ds,d.g.ok c.sz.length/\d.g.ht<=3
 l5:c.lb<=5
 t4:1<=c.tn/\c.tn<=4
 kp:∀ r∈c.rs,Bd r
 e8:ne<=8
theorem Wg.ch{H:Hp}{p:Addr}{c:ig}{bs:List (Int × Int)}{ne:Nat}(x:Wg H p c bs ne)(o:Gq c bs ne):za H p c:=by
 obtain⟨pb,pn,t,pd,bv,nv,rv,dv,h1,h2,h3,h4,h5,h6,h7,h8,h9,h10⟩:=x
 exact⟨pb,t,pd,_,bv,dv,h1,h2,by rw[o.sz];exact qCB h3,⟨rv,h6,h7⟩,h8,h9,h10⟩
def K3(K:PySem.W.Frag):Sp:=fun vs H Q _ => ∃(a:Addr)(ns:List Int),vs=[.ref a]/\aX K H a (ns.map V.int)/\ns.length<=63 ∧
 ∀(p:Addr)(c:ig)(bs:List (Int × Int))(ne:Nat)(H':Hp),aM H H'->Wg H' p c bs ne->Gq c bs ne->Q (.ref p) H'
section
variable{P:Program}{w:World}{K:PySem.W.Frag}{mg:Str->Option Value}{base:Heap}
abbrev TV:Scope:=⟨.function,[("_law_script",.cell),("_law_many",.local),("_law_events",.local),("_law_boxes",.local),("_law_k",.local),("_law_size",.local),("_law_sizes",.local),("_law_names",.local),("_law_rooms_here",.local),("_law_count",.local),("_law_doors_here",.local),("_law_order",.local),("_law_letters",.local),("_law_turns",.local),("_law_mixed",.globalImplicit),("range",.globalImplicit),("_law_cell_at",.globalImplicit),("_law_name",.globalImplicit),("tuple",.globalImplicit),("_law_rooms",.globalImplicit),("_law_depths",.globalImplicit),("_law_doors",.globalImplicit)],false,false,(aG lM).more⟩
theorem W3:aG lM=TV:=by rfl
theorem bA:aN ["_law_script","_law_many","_law_events","_law_boxes","_law_k","_law_size","_law_sizes","_law_names","_law_rooms_here","_law_count","_law_doors_here","_law_order","_law_letters","_law_turns"] ["_law_script"] TV:=⟨rfl,rfl,rfl,by decide +kernel,rfl,by decide +kernel,by decide +kernel⟩
theorem R9{n:Nat}{f gm gc gn ge gr gd:Addr}{fd dm dc dn de dr dd:FuncData}(F:cZ K "_law_chart" "_law_chart" lM f fd)(aW:aL P w K mg base aq n gm dm ["_law_script","_law_k","_law_salt"] (gF K))(aV:Binds K dm ["_law_script","_law_k","_law_salt"] [])(aU:KI K gm)(aR:mg "_law_mixed" = some (.ref gm))
  (jf:aL P w K mg base aq n gc dc ["_law_script","_law_k"] (Bp K)) (jb:Binds K dc ["_law_script","_law_k"] []) (jY:KI K gc) (jV:mg "_law_cell_at" = some (.ref gc))
  (oJ:aL P w K mg base aq n gn dn ["_law_k","_law_number"] Bm) (oA:Binds K dn ["_law_k","_law_number"] []) (nW:KI K gn) (nO:mg "_law_name" = some (.ref gn))
  (Ow:aL P w K mg base aq n ge de ["_law_script","_law_many"] (Ec K)) (Oe:Binds K de ["_law_script","_law_many"] []) (Nf:KI K ge) (My:mg "_law_depths" = some (.ref ge))
  (Tu:aL P w K mg base aq n gr dr ["_law_script","_law_depths_here","_law_sizes","_law_events"] (Ju K)) (Tc:Binds K dr ["_law_script","_law_depths_here","_law_sizes","_law_events"] []) (Rk:KI K gr) (RT:mg "_law_rooms" = some (.ref gr))
  (Tv:aL P w K mg base aq n gd dd ["_law_script","_law_many","_law_rooms_here","_law_sizes","_law_events"] (K1 K)) (Td:Binds K dd ["_law_script","_law_many","_law_rooms_here","_law_sizes","_law_events"] []) (Rn:KI K gd) (RV:mg "_law_doors" = some (.ref gd))
  (aZ:mg "range" = none) (aa:mg "tuple" = none):aL P w K mg base aq (n+1) f fd ["_law_script"] (K3 K):=by
 refine okS TV W3 F bA (fun vs H Q E h=>?_) (fun cdv A outer s H vs Q E hr h=>?_)
 ·refine aK fun G_ g_=>?_
  obtain⟨a,ns,rfl,_⟩:=h
  refine g_ ?_;clear g_
  rfl
 refine aK fun G_ g_=>?_
 obtain⟨a,ns,rfl,hS,h63,q⟩:=h
 refine g_ ?_;clear g_
 refine⟨_,RSs.p (jT (Bx (zK (i:=1) bA.nd rfl (Or.inl rfl) (yC yF zB (yC yL (yC yF (yC gM (yC zY (zJ aW hr rfl aR aU aV .nil yE (zA (pv 0) (zA zB (zA zB zD)))) zB) zB) zB) zB))))
  (jT (Ep (i:=2) bA.nd rfl (Or.inl rfl) (Es (Er (wX (vs:=[.int 0,.int 1,.int 1,.int 2,.int 2,.int 2,.int 3,.int 3]) (by rfl))) (yC zY (zJ aW hr rfl aR aU aV .nil yE (zA (pv 0) (zA zB (zA zB zD)))) zB) (fun _ _=>rfl)))
  (Wo (Bx (yD (zL yG (yC zY (zJ aW hr rfl aR aU aV .nil yE (zA (pv 0) (zA zB (zA zB zD)))) zB) zB (zR _)) (zG (zK (i:=2) bA.nd rfl (Or.inl rfl) (yC yF zB (yC zY (zJ aW hr rfl aR aU aV .nil yE (zA (pv 0) (zA zB (zA zB zD)))) zB)))) zT))
  (jT (Bx (zK (i:=3) bA.nd rfl (Or.inl rfl) (yK zD)))
  (Wo (Bx (bN PassesOwn.never rfl (bV rfl aZ (zA (yC zY (zJ aW hr rfl aR aU aV .nil yE (zA (pv 0) (zA zB (zA zB zD)))) (yB yU (yK (zA zB (zA zB (zA zB (zA zB zD))))) (yC zY (zJ aW hr rfl aR aU aV .nil yE (zA (pv 0) (zA zB (zA zB zD)))) zB) (fun _ _=>rfl))) zD)) (yJ (i:=4) bA.nd rfl (Or.inl rfl))
  (zE (zK (i:=5) bA.nd rfl (Or.inl rfl) (yC yF zB (yC zY (zJ aW hr rfl aR aU aV .nil yE (zA (pv 0) (zA zB (zA (yC yF zB (pv 4)) zD)))) zB)))
  (zZ (yD (zL yG (yC zY (zJ aW hr rfl aR aU aV .nil yE (zA (pv 0) (zA zB (zA (yC yF zB (pv 4)) zD)))) zB) zB (zR _))
  (zG (zK (i:=5) bA.nd rfl (Or.inl rfl) (yC yF zB (yC zY (zJ jf hr rfl jV jY jb .nil yE (zA (pv 0) (zA zB zD))) (yC Hl zB zB)))))
  zT)
  (zG (yI (bz PySem.F.plainAttrs_list PySem.F.slot_list_append PySem.F.type_list_append yH (pv 3) (zA (zW (zA (zJ oJ hr rfl nO nW oA .nil yE (zA (pv 4) (zA (yC zY (zJ jf hr rfl jV jY jb .nil yE (zA (pv 0) (zA zB zD))) zB) zD))) (zA (pv 5) (zA (yC zY (zJ aW hr rfl aR aU aV .nil yE (zA (pv 0) (zA zB (zA (yC yF zB (pv 4)) zD)))) (pv 5)) zD)))) zD))))))))
  (jT (Bx (iJ (i:=6) (bY:=[]) rfl bA.nd rfl (Or.inl rfl) (show bQ TV ["_law_script","_law_many","_law_events","_law_boxes","_law_k","_law_size","_law_sizes","_law_names","_law_rooms_here","_law_count","_law_doors_here","_law_order","_law_letters","_law_turns"] _ _ _ from ⟨rfl,rfl,by decide +kernel,by decide +kernel,by decide +kernel,by decide +kernel,by decide +kernel⟩) (yM (pv 3)) (fun _ _ _ _ _ _=>fG) (fun _ _ _ _ _ _=>(yB (r:=fj K) zH (pv 0) zB (fun _ _=>rfl)))))
  (jT (Bx (zK (i:=7) bA.nd rfl (Or.inl rfl) (yA zX rfl aa PyProof.Rows.boot_tuple (zA (yT (bY:=[(0,"_law_script")]) rfl (show bQ TV ["_law_script","_law_many","_law_events","_law_boxes","_law_k","_law_size","_law_sizes","_law_names","_law_rooms_here","_law_count","_law_doors_here","_law_order","_law_letters","_law_turns"] _ _ _ from ⟨rfl,rfl,by decide +kernel,by decide +kernel,by decide +kernel,by decide +kernel,by decide +kernel⟩) (bV rfl aZ (zA (pv 2) zD)) (fun _ _ _ _ _ _=>fG) (fun _ _ _ _ _ _=>(zJ oJ hr rfl nO nW oA .nil yE (zA (pv 0) (zA (yC zY (zJ jf hr rfl jV jY jb .nil yE (zA (pv 1) (zA zB zD))) zB) zD))))) zD))))
  (jT (Bx (zK (i:=8) bA.nd rfl (Or.inl rfl) (zJ Tu hr rfl RT Rk Tc .nil yE (zA (pv 0) (zA (zJ Ow hr rfl My Nf Oe .nil yE (zA (pv 0) (zA (pv 1) zD))) (zA (pv 6) (zA (pv 2) zD)))))))
  (jT (Ep (i:=9) bA.nd rfl (Or.inl rfl) (Es (Er (wX (vs:=[.int 4,.int 5,.int 6,.int 7,.int 8,.int 9,.int 10,.int 6,.int 7,.int 8,.int 2,.int 0]) (by rfl))) (yC zY (zJ aW hr rfl aR aU aV .nil yE (zA (pv 0) (zA zB (zA zB zD)))) zB) (fun _ _=>rfl)))
  (jT (Bx (zK (i:=10) bA.nd rfl (Or.inl rfl) (zJ Tv hr rfl RV Rn Td .nil yE (zA (pv 0) (zA (pv 9) (zA (pv 8) (zA (pv 6) (zA (pv 2) zD))))))))
  (jT (Ep (i:=11) bA.nd rfl (Or.inl rfl) (Es (Er (wX (vs:=[.str "inner",.str "outer"]) (by rfl))) (yC zY (zJ aW hr rfl aR aU aV .nil yE (zA (pv 0) (zA zB (zA zB zD)))) zB) (fun _ _=>rfl)))
  (jT (Ep (i:=12) bA.nd rfl (Or.inl rfl) (Es (Er (wX (vs:=[.int 0,.int 1,.int 2,.int 3,.int 2,.int 4,.int 3,.int 5]) (by rfl))) (yC zY (zJ aW hr rfl aR aU aV .nil yE (zA (pv 0) (zA zB (zA zB zD)))) zB) (fun _ _=>rfl)))
  (jT (Ep (i:=13) bA.nd rfl (Or.inl rfl) (Es (Er (wX (vs:=[.int 1,.int 2,.int 3,.int 4,.int 3,.int 4,.int 2,.int 4]) (by rfl))) (yC zY (zJ aW hr rfl aR aU aV .nil yE (zA (pv 0) (zA zB (zA zB zD)))) zB) (fun _ _=>rfl)))
  (qB8 (Bx (zO (zW (zA (pv 11) (zA (pv 12) (zA (pv 13) (zA (yA zX rfl aa PyProof.Rows.boot_tuple (zA (pv 3) zD)) (zA (pv 7) (zA (pv 8) (zA (pv 10) zD)))))))))))))))))))))))),?_⟩
 refine⟨_,rfl,a,ns,_,_,rfl,hS,h63,⟨by decide,by decide⟩,⟨by decide,by decide⟩,fun x x0 x1=>(bF ⟨(by show (0:Int) < 16;decide),_,_,rfl,rfl,qu (by lia) (by lia),_,_,rfl,rfl,bF ⟨⟨by decide,by decide⟩,_,_,rfl,rfl,?_⟩⟩)⟩
 refine aK fun G_ g_=>?_
 obtain⟨m,hm,m1,m10⟩:∃ m:Nat,1+(x % 16 * 9+14) / 16=(m:Int)/\1<=m/\m<=10:=⟨(1+(x % 16 * 9+14) / 16).toNat,by lia,by lia,by lia⟩
 refine g_ ?_;clear g_
 refine⟨zI (by show 8<=1000;decide),fun p1 hp1=>?_⟩
 have s1:=zF hp1 (.lst [V.int 0,V.int 1,V.int 1,V.int 2,V.int 2,V.int 2,V.int 3,V.int 3])
 refine⟨_,rfl,a,ns,_,_,rfl,s1.seq hS,h63,⟨by decide,by decide⟩,⟨by decide,by decide⟩,fun x2 x20 x21=>?_⟩
 refine aK fun G_ g_=>?_
 obtain⟨e,he,Vs⟩:=int_at (zs:=[0,1,1,2,2,2,3,3]) (i:=x2 % 8) (by lia) (by show _ < (8:Int);lia)
 refine g_ ?_;clear g_
 have e03:0<=e/\e<=3:=by
  simp only[List.mem_cons,List.not_mem_nil,or_false]at he
  lia
 refine (bF ⟨(by show (0:Int) < 8;decide),cz (aX.of zC) Vs ?_⟩)
 generalize upd H p1 (.lst [V.int 0,V.int 1,V.int 1,V.int 2,V.int 2,V.int 2,V.int 3,V.int 3])=H1 at s1 ⊢
 obtain⟨e0,he0⟩:∃ e0,e0=e:=⟨_,rfl⟩
 refine⟨fun σ' H'=>H1=H'/\∃ e:Int,0<=e/\e<=8/\σ'=[some (.ref a),some (.int (1+(x % 16 * 9+14) / 16)),some (.int e),none,none,none,none,none,none,none,none,none,none,none],?_,?_⟩
 ·refine⟨_,rfl,a,ns,_,_,rfl,s1.seq hS,h63,⟨by decide,by decide⟩,⟨by decide,by decide⟩,fun y y0 y1=>(bF ⟨(by show (0:Int) < 8;decide),rfl,_,rfl,cW (fun z=>?_) (fun z=>⟨rfl,e,by lia,by lia,rfl⟩)⟩)⟩
  exact⟨_,rfl,a,ns,_,_,rfl,s1.seq hS,h63,⟨by decide,by decide⟩,⟨by decide,by decide⟩,fun v v0 v1=>(bF ⟨(by show (0:Int) < 5;decide),_,_,rfl,rfl,rfl,4+v % 5,by lia,by lia,rfl⟩)⟩
 clear he0 e0 e03 he Vs e
 rintro _ _ aP
 refine aK fun G_ g_=>?_
 obtain⟨rfl,e,e01,e02,rfl⟩:=aP
 refine g_ ?_;clear g_
 have e03:0<=e/\e<=8:=⟨e01,e02⟩
 refine⟨Nat.zero_le _,fun pb hpb=>?_⟩
 have npb:H pb=none:=s1.free hpb
 have s2:=s1.trans (zF hpb (.lst []))
 refine⟨fun σ' H' => ∃(vs:List V)(sz:List (Int × Int)),aM H H'/\H' pb=some (.lst vs)/\Al (Gr H') vs sz/\(∀ z∈sz,0<=z.2/\z.2 < z.1)/\sz.length<=6/\∃ o4 o5:Option V,σ'=[some (.ref a),some (.int (1+(x % 16 * 9+14) / 16)),some (.int e),some (.ref pb),o4,o5,none,none,none,none,none,none,none,none],?_,?_⟩
 ·refine⟨_,rfl,a,ns,_,_,rfl,s2.seq hS,h63,⟨by decide,by decide⟩,⟨by decide,by decide⟩,fun x3 x30 x31=>⟨zI (by show 4<=1000;decide),fun p9 hp9=>?_⟩⟩
  have u9:=zF hp9 (.lst [V.int 3,V.int 3,V.int 3,V.int 7])
  have s29:=s2.trans u9
  have n9:=u9 _ _ (show upd H1 pb (.lst []) pb=some (.lst []) from zC)
  refine⟨_,rfl,a,ns,_,_,rfl,s29.seq hS,h63,⟨by decide,by decide⟩,⟨by decide,by decide⟩,fun x4 x40 x41=>?_⟩
  refine aK fun G_ g_=>?_
  obtain⟨zb,hzb,Yy⟩:=int_at (zs:=[3,3,3,7]) (i:=x4 % 4) (by lia) (by show _ < (4:Int);lia)
  refine g_ ?_;clear g_
  have zb7:0 < zb/\zb<=7:=by
   simp only[List.mem_cons,List.not_mem_nil,or_false]at hzb
   lia
  have w0:=Int.emod_nonneg x3 (show zb ≠ 0 by lia)
  have w1:=Int.emod_lt_of_pos x3 zb7.1
  refine (bF ⟨(by show (0:Int) < 4;decide),cz (aX.of zC) Yy (bF ⟨zb7.1,_,rfl,by lia,by lia,?_⟩)⟩)
  refine bR (fun i σ' H' => ∃(vs:List V)(sz:List (Int × Int)),aM H H'/\H' pb=some (.lst vs)/\Al (Gr H') vs sz/\(∀ z∈sz,0<=z.2/\z.2 < z.1)/\sz.length=i/\∃ o4 o5:Option V,σ'=[some (.ref a),some (.int (1+(x % 16 * 9+14) / 16)),some (.int e),some (.ref pb),o4,o5,none,none,none,none,none,none,none,none])
   ⟨[],[],s29,n9,.nil,(fun d h=>by cases h),rfl,none,none,rfl⟩ ?_ (fun σ' H' ⟨vs,sz,h1,h2,h3,h4,h5,h6⟩=>⟨vs,sz,h1,h2,h3,h4,by lia,h6⟩)
  rintro i σ' H3 hi aP
  refine aK fun G_ g_=>?_
  obtain⟨vs,sz,s3,h3,hA,hpos,hlen,o4,o5,rfl⟩:=aP
  refine g_ ?_;clear g_
  have hi3:i < 7:=by lia
  refine⟨_,rfl,_,rfl,bF ⟨a,ns,_,_,rfl,s3.seq hS,h63,⟨by decide,by decide⟩,⟨by lia,by lia⟩,fun y y0 y1=>(bF ⟨(by show (0:Int) < 3;decide),_,_,rfl,rfl,?_⟩)⟩⟩
  refine⟨fun σ' H'=>H'=H3/\∃ z:Int,0 < z/\σ'=[some (.ref a),some (.int (1+(x % 16 * 9+14) / 16)),some (.int e),some (.ref pb),some (.int (0+(i:Int))),some (.int z),none,none,none,none,none,none,none,none],?_,?_⟩
  ·refine⟨_,rfl,_,rfl,bF ⟨a,ns,_,_,rfl,s3.seq hS,h63,⟨by decide,by decide⟩,⟨by lia,by lia⟩,fun y2 y20 y21=>(bF ⟨(by show (0:Int) < 6;decide),rfl,_,rfl,cW (fun c=>?_) (fun c=>⟨rfl,1+y % 3,by lia,rfl⟩)⟩)⟩⟩
   refine⟨_,rfl,a,ns,_,rfl,s3.seq hS,h63,fun v=>(bF ⟨⟨by decide,by decide,by decide⟩,_,_,rfl,rfl,(by show (0:Int) < 10 ^ 30;decide),_,_,rfl,rfl,rfl,1+v % 10 ^ 30,?_,rfl⟩)⟩
   have:=Int.emod_nonneg v (show (10:Int) ^ 30 ≠ 0 by decide)
   lia
  rintro σ4 H4 aP
  refine aK fun G_ g_=>?_
  obtain⟨rfl,z,z0,rfl⟩:=aP
  refine g_ ?_;clear g_
  refine⟨_,rfl,.inl ⟨rfl,_,aX.of h3⟩,_,rfl,_,rfl,a,ns,_,rfl,s3.seq hS,h63,fun cv=>(bF ⟨(by show (0:Int) < 991;decide),_,_,rfl,fun nm H5 s5=>?_⟩)⟩
  have Dm:=s3.trans s5
  refine⟨_,rfl,_,rfl,_,rfl,bF ⟨a,ns,_,_,rfl,Dm.seq hS,h63,⟨by decide,by decide⟩,⟨by lia,by lia⟩,fun y3 y30 y31=>?_⟩⟩
  refine⟨_,rfl,bF ⟨(by show (0:Int) < z;exact z0),zI (by show 3<=1000;decide),fun p6 yr=>?_⟩⟩
  have u6:=zF yr (.tup [.str nm,.int z,.int (y3 % z)])
  have h6:=u6 _ _ (s5 _ _ h3)
  have lv:=hA.length
  have kl:=aF.lst h6 (.lst (vs++[.ref p6]))
  refine⟨pb,_,_,rfl,rfl,h6,zV (by lia),vs++[.ref p6],sz++[(z,y3 % z)],cB npb (Dm.trans u6) _,zC,Al.snoc (hA.mono fun _ _ b=>b.mono ((aF.of (s5.trans u6)).trans kl)) ⟨p6,nm,rfl,kl _ _ zC⟩,fun d hd=>?_,by simp [hlen],_,_,rfl⟩
  rcases cX.mp hd with hd | hd
  ·exact hpos d hd
  ·rw[cJ.mp hd]
   exact⟨Int.emod_nonneg _ (by lia),Int.emod_lt_of_pos _ z0⟩
 rintro σ5 H5 aP
 refine aK fun G_ g_=>?_
 obtain⟨vs,bs,s5,h5,hA,hst,l6,o4,o5,rfl⟩:=aP
 obtain⟨sz,hsz0⟩:∃ sz:List Int,sz=bs.map (·.1):=⟨_,rfl⟩
 refine g_ ?_;clear g_
 have lsz:sz.length=bs.length:=by rw[hsz0,cM]
 have hpos:∀ z∈sz,0 < z:=fun z hz=>by
  rw[hsz0]at hz
  refine aK fun G_ g_=>?_
  obtain⟨b,hb,rfl⟩:=fO.mp hz
  refine g_ ?_;clear g_
  have:=hst b hb
  lia
 have lv:=hA.length
 refine⟨_,rfl,pb,rfl,⟨_,aX.of h5⟩,?_⟩
 refine yS (K:=K) (a:=pb) (xs:=vs) (fun i acc H'=>H'=H5/\acc=(sz.take i).map V.int) ⟨rfl,rfl⟩ (fun i acc H' ⟨e,_⟩=>by subst e;exact aX.of h5) (fun i y acc H' hx ⟨e1,e2⟩=>?_) (fun acc H' ⟨e1,e2⟩ ps hps=>?_)
 ·subst e1 e2
  have hi:i < sz.length:=by
   have:=(yZ.mp hx).1
   lia
  have hib:i < bs.length:=by lia
  have erb:=cj hib
  have er:sz[i]? = some (bs[i]).1:=by rw[hsz0,qd,erb];rfl
  refine aK fun G_ g_=>?_
  obtain⟨v,hv,a2,nm,rfl,ha2⟩:=hA.get erb
  refine g_ ?_;clear g_
  rw[hv]at hx
  obtain rfl:=oN hx
  refine⟨_,rfl,aD (aH.of ha2) rfl ⟨zV (by rw[cM,dN];lia),rfl,?_⟩⟩
  rw[gB,er,jH]
  rfl
 subst e1 e2
 rw[show sz.take vs.length=sz from tW (by lia)]
 have s6:=zF hps (.lst (sz.map V.int))
 have h6:(upd H' ps (.lst (sz.map V.int))) ps=some (.lst (sz.map V.int)):=zC
 generalize upd H' ps (.lst (sz.map V.int))=H6 at s6 h6 ⊢
 have s56:=s5.trans s6
 have hsz:kI H6 ps sz:=⟨h6,hpos,by lia⟩
 refine⟨_,rfl,_,rfl,by lia,by lia,?_⟩
 refine nu (fun i acc H'=>aM H6 H'/\acc.length=i) ⟨aM.refl _,rfl⟩ (fun i acc H' hi ⟨e1,e2⟩=>?_) (fun acc Hn ⟨e1,e2⟩ pl hpl=>?_)
 ·refine⟨_,rfl,_,rfl,a,ns,_,rfl,(s56.trans e1).seq hS,h63,fun cv=>(bF ⟨(by show (0:Int) < 983;decide),_,_,rfl,fun z H'' s''=>⟨zV (by lia),e1.trans s'',by simp [e2]⟩⟩)⟩
 have s7:=e1.trans (zF hpl (.lst acc))
 refine⟨pl,_,rfl,.inl ⟨aX.of zC,fun pn hpn=>?_⟩⟩
 have s8:=s7.trans (zF hpn (.tup acc))
 have h8n:upd (upd Hn pl (.lst acc)) pn (.tup acc) pn=some (.tup acc):=zC
 have lacc:acc.length<=8:=by lia
 generalize upd (upd Hn pl (.lst acc)) pn (.tup acc)=H8 at s8 h8n ⊢
 have s58:=s56.trans s8
 refine⟨_,rfl,_,rfl,_,rfl,a,ns,m,(by show [V.ref a,V.int (1+(x % 16 * 9+14) / 16)]=[V.ref a,V.int (m:Int)];rw[hm]),s58.seq hS,h63,m1,by lia,fun pd dl H9 s9 UG hpd good low ldl=>?_⟩
 have s59:=s58.trans s9
 refine⟨_,rfl,_,rfl,a,pd,ps,ns,dl,sz,e,rfl,s59.seq hS,h63,hpd,by lia,hsz.mono (s8.trans s9),fun t rv rs dis v8 Je Ek hrv rb edp fit hkp=>?_⟩
 have hR:cD Je t rs:=⟨rv,hrv,rb.inn⟩
 have qB7:=s59.trans Ek
 have ld:=yV rs
 have lr:rs.length=m:=by rw[<-ld,edp,ldl]
 rw[<-edp]at good low
 refine⟨zI (by show 12<=1000;decide),fun Qm yt=>?_⟩
 have U7:=zF yt (.lst [V.int 4,V.int 5,V.int 6,V.int 7,V.int 8,V.int 9,V.int 10,V.int 6,V.int 7,V.int 8,V.int 2,V.int 0])
 refine⟨_,rfl,a,ns,_,_,rfl,(qB7.trans U7).seq hS,h63,⟨by decide,by decide⟩,⟨by decide,by decide⟩,fun y2 y20 y21=>?_⟩
 obtain⟨ct,hct,rD⟩:=int_at (zs:=[4,5,6,7,8,9,10,6,7,8,2,0]) (i:=y2 % 12) (by lia) (by show _ < (12:Int);lia)
 refine aK fun G_ g_=>?_
 obtain⟨c,rfl,c12⟩:∃ c:Nat,ct=(c:Int)/\c<=12:=by
  simp only[List.mem_cons,List.not_mem_nil,or_false]at hct
  exact⟨ct.toNat,by omega,by omega⟩
 refine g_ ?_;clear g_
 refine (bF ⟨(by show (0:Int) < 12;decide),cz (aX.of zC) rD ?_⟩)
 generalize upd Je Qm (.lst [V.int 4,V.int 5,V.int 6,V.int 7,V.int 8,V.int 9,V.int 10,V.int 6,V.int 7,V.int 8,V.int 2,V.int 0])=Tq at U7 ⊢
 have qB6:=qB7.trans U7
 refine⟨_,rfl,_,rfl,_,rfl,_,rfl,_,rfl,a,t,ps,ns,sz,rs,c,e,rfl,qB6.seq hS,h63,c12,hR.mono (aF.of U7),by lia,by lia,hsz.mono (((s8.trans s9).trans Ek).trans U7),e03.1,fun pdo dv ds Pn s12 hdv hDv T6 d12 hev=>?_⟩
 have Ur:=qB6.trans s12
 refine⟨zI (by show 2<=1000;decide),fun Ew S9=>?_⟩
 have Ad:=zF S9 (.lst [V.str "inner",V.str "outer"])
 refine⟨_,rfl,a,ns,_,_,rfl,(Ur.trans Ad).seq hS,h63,⟨by decide,by decide⟩,⟨by decide,by decide⟩,fun y3 y30 y31=>?_⟩
 refine aK fun G_ g_=>?_
 obtain⟨od,_,hat3⟩:=wI (zs:=[("inner" : Str),"outer"]) (i:=y3 % 2) (by lia) (by show _ < (2:Int);lia)
 refine g_ ?_;clear g_
 refine (bF ⟨(by show (0:Int) < 2;decide),cz (aX.of zC) hat3 ?_⟩)
 generalize upd Pn Ew (.lst [V.str "inner",V.str "outer"])=Wa at Ad ⊢
 refine⟨zI (by show 8<=1000;decide),fun U8 Yv=>?_⟩
 have Ha:=Ad.trans (zF Yv (.lst [V.int 0,V.int 1,V.int 2,V.int 3,V.int 2,V.int 4,V.int 3,V.int 5]))
 refine⟨_,rfl,a,ns,_,_,rfl,(Ur.trans Ha).seq hS,h63,⟨by decide,by decide⟩,⟨by decide,by decide⟩,fun y4 y40 y41=>?_⟩
 refine aK fun G_ g_=>?_
 obtain⟨lt,hlt,qEC⟩:=int_at (zs:=[0,1,2,3,2,4,3,5]) (i:=y4 % 8) (by lia) (by show _ < (8:Int);lia)
 refine g_ ?_;clear g_
 refine (bF ⟨(by show (0:Int) < 8;decide),cz (aX.of zC) qEC ?_⟩)
 generalize upd Wa U8 (.lst [V.int 0,V.int 1,V.int 2,V.int 3,V.int 2,V.int 4,V.int 3,V.int 5])=Tp at Ha ⊢
 refine⟨zI (by show 8<=1000;decide),fun p15 Yu=>?_⟩
 have Gu:=Ha.trans (zF Yu (.lst [V.int 1,V.int 2,V.int 3,V.int 4,V.int 3,V.int 4,V.int 2,V.int 4]))
 refine⟨_,rfl,a,ns,_,_,rfl,(Ur.trans Gu).seq hS,h63,⟨by decide,by decide⟩,⟨by decide,by decide⟩,fun y5 y50 y51=>?_⟩
 refine aK fun G_ g_=>?_
 obtain⟨tn,htn,qEB⟩:=int_at (zs:=[1,2,3,4,3,4,2,4]) (i:=y5 % 8) (by lia) (by show _ < (8:Int);lia)
 refine g_ ?_;clear g_
 refine (bF ⟨(by show (0:Int) < 8;decide),cz (aX.of zC) qEB ?_⟩)
 generalize upd Tp p15 (.lst [V.int 1,V.int 2,V.int 3,V.int 4,V.int 3,V.int 4,V.int 2,V.int 4])=H15 at Gu ⊢
 have qB0:aM H' H15:=((((((s6.trans s8).trans s9).trans Ek).trans U7).trans s12)).trans Gu
 refine⟨_,rfl,_,rfl,_,rfl,_,rfl,pb,_,rfl,.inl ⟨aX.of (qB0 _ _ h5),fun PX qDY=>?_⟩⟩
 have s16:=zF qDY (.tup vs)
 have i16:upd H15 PX (.tup vs) PX=some (.tup vs):=zC
 generalize upd H15 PX (.tup vs)=Xd at s16 i16 ⊢
 refine⟨_,rfl,_,rfl,_,rfl,zI (by show 7<=1000;decide),fun pc rF=>?_⟩
 refine aK fun G_ g_=>?_
 obtain⟨lb,rfl,lb5⟩:∃ lb:Nat,lt=(lb:Int)/\lb<=5:=by
  simp only[List.mem_cons,List.not_mem_nil,or_false]at hlt
  exact⟨lt.toNat,by lia,by lia⟩
 obtain⟨tm,rfl,tm1,tm4⟩:∃ tm:Nat,tn=(tm:Int)/\1<=tm/\tm<=4:=by
  simp only[List.mem_cons,List.not_mem_nil,or_false]at htn
  exact⟨tn.toNat,by lia,by lia,by lia⟩
 refine g_ ?_;clear g_
 have Xr:=zF rF (.tup [.str od,.int (lb:Int),.int (tm:Int),.ref PX,.ref pn,.ref t,.ref pdo])
 have KH:=(Gu.trans s16).trans Xr
 have KJ:=((U7.trans s12)).trans KH
 refine q pc ⟨od,lb,tm,sz,rs,(fun k=>dis.getD k []),(fun k=>v8.getD k []),ds⟩ bs acc.length _ (Ur.trans KH) ⟨PX,pn,t,pdo,vs,acc,rv,dv,zC,Xr _ _ i16,hA.mono (fun _ _ b=>b.mono (aF.of ((qB0.trans s16).trans Xr))),((s9.trans Ek).trans KJ) _ _ h8n,rfl,KJ _ _ hrv,rb.inn.mono (aF.of KJ),rb.dd.mono (aF.of KJ),KH _ _ hdv,hDv.mono fun _ _ z=>z.mono (aF.of KH)⟩ ?_
 exact⟨⟨good,by show rs.length<=40;lia,by show sz.length<=6;lia,hpos,by show lb<=12;lia,fun k=>(rb.say k).1,fun k=>(rb.say k).2,by show ds.length<=63;lia,fun d hd=>⟨(T6 d hd).1,(T6 d hd).2.1,(T6 d hd).2.2.2.2⟩⟩,hsz0,hst,fit,low,by show rs.length<=10;lia,fun d hd=>⟨(T6 d hd).2.2.1,(T6 d hd).2.2.2.1⟩,lb5,⟨tm1,tm4⟩,hkp,by lia⟩
end
end vM
namespace Ru
open PySem L2 mR oU tZ Ds yd jA
open mO (Al)
structure Xa(rs:List Rm):Prop where
 good:Tr.Good (aA rs)
 low:vM.WT (aA rs)
 fit:Jl rs
 l10:rs.length<=10
theorem Lr{rs:List Rm}(l10:rs.length<=10){room:Nat}{L:List Nat}(h:Tr.OpF (aA rs) (iu rs) room L):L.length<=10:=Nat.le_trans (Tr.cL _ _ (Tr.bK h.rise) fun x hx=>by have:=h.lt x hx;rw[yV]at this;exact this) l10
theorem WR{rs:List Rm}(l10:rs.length<=10){room:Nat}{ks L:List Nat}(h:Tr.Pj (aA rs) (iu rs) room ks L):L.length<=10:=Nat.le_trans (Tr.cL _ _ (Tr.bK h.rise) fun x hx=>by have:=h.lt x hx;rw[yV]at this;exact this) l10
def wM(K:PySem.W.Frag)(n:Nat):Sp:=fun vs H Q _ => ∃(t a:Addr)(ns:List Int)(rs:List Rm)(room:Nat)(ir at':Int),vs=[.ref t,.int ir,.ref a,.int at']/\ir=(room:Int)/\cD H t rs/\Xa rs/\room < rs.length/\5<=(aA rs).getD room 0+(n:Int)/\aX K H a (ns.map V.int)/\ns.length<=63/\(0<=at'/\at'<=900) ∧
 ∀(p:Addr)(os:List Nat)(H':Hp),aM H H'->H p=none->H' p=some (.lst (aB (room :: os)))->Tr.OpF (aA rs) (iu rs) room (room :: os)->Q (.ref p) H'
section
variable{P:Program}{w:World}{K:PySem.W.Frag}{mg:Str->Option Value}{base:Heap}
theorem cH:aN ["_law_rooms_here","_law_room","_law_script","_law_at","_law_opened_here","_law_inside","_law_k","_law_kid"] ["_law_rooms_here","_law_room","_law_script","_law_at"] (aG gf):=⟨rfl,rfl,rfl,by decide +kernel,rfl,by decide +kernel,by decide +kernel⟩
theorem YF{n:Nat}{f gm:Addr}{fd dm:FuncData}(F:cZ K "_law_opened" "_law_opened" gf f fd)(aW:aL P w K mg base aq (n+2) gm dm ["_law_script","_law_k","_law_salt"] (gF K))(aV:Binds K dm ["_law_script","_law_k","_law_salt"] [])(aU:KI K gm)(aR:mg "_law_mixed" = some (.ref gm))
  (qY:aL P w K mg base aq (n+2) f fd ["_law_rooms_here","_law_room","_law_script","_law_at"] (wM K n)) (eQ:Binds K fd ["_law_rooms_here","_law_room","_law_script","_law_at"] []) (qO:KI K f) (eE:mg "_law_opened" = some (.ref f))
  (aY:mg "len" = none):aL P w K mg base aq (n+3) f fd ["_law_rooms_here","_law_room","_law_script","_law_at"] (wM K (n+1)):=by
 refine F.ok cH (fun vs H Q E h=>?_) (fun cdv A outer s H vs Q E hr h=>?_)
 ·refine aK fun G_ g_=>?_
  obtain⟨t,a,ns,rs,room,ir,at',rfl,_⟩:=h
  refine g_ ?_;clear g_
  rfl
 refine aK fun G_ g_=>?_
 obtain⟨t,a,ns,rs,room,ir,at',rfl,rfl,hR,ok,rl,fuel,hS,h63,⟨a0,a1⟩,q⟩:=h
 refine g_ ?_;clear g_
 refine⟨_,(zE (zK (i:=4) cH.nd rfl (Or.inl rfl) (yK (zA (pv 1) zD)))
  (zE (yD (zL yG (yB zH (yB zH (pv 0) (pv 1) (fun _ _=>rfl)) zB (fun _ _=>rfl)) zP (zR _))
  (zG (zO (pv 4)))
  zT)
  (zE (zK (i:=5) cH.nd rfl (Or.inl rfl) (yK zD))
  (zE (zK (i:=6) cH.nd rfl (Or.inl rfl) (yC yF (pv 1) zB))
  (zZ (pM PassesOwn.never (bW (PW.pt (pw_and (zL lQ (pv 6) (zS zN rfl aY PySem.boot_len (zA (pv 0) zD)) (zR _)) (yP (zL fY (yB zH (yB zH (pv 0) (pv 6) (fun _ _=>rfl)) zB (fun _ _=>rfl)) (yB zH (yB zH (pv 0) (pv 1) (fun _ _=>rfl)) zB (fun _ _=>rfl)) (zR _))))))
  (zZ (yD (zL yG (yB zH (yB zH (pv 0) (pv 6) (fun _ _=>rfl)) zB (fun _ _=>rfl)) (yC yF (yB zH (yB zH (pv 0) (pv 1) (fun _ _=>rfl)) zB (fun _ _=>rfl)) zB) (zR _))
  (zG (yI (bz PySem.F.plainAttrs_list PySem.F.slot_list_append PySem.F.type_list_append yH (pv 5) (zA (pv 6) zD))))
  zT)
  (zG (zK (i:=6) cH.nd rfl (Or.inl rfl) (yC yF (pv 6) zB)))))
  (zZ (yD (zL yG (yB zH (yB zH (pv 0) (pv 1) (fun _ _=>rfl)) zB (fun _ _=>rfl)) zP (zR _))
  (zG (zK (i:=5) cH.nd rfl (Or.inl rfl) (yK (zA (yB yU (pv 5) (yC zY (zJ aW hr rfl aR aU aV .nil yE (zA (pv 2) (zA (yC yF (pv 3) (pv 1)) (zA zB zD)))) (zS zN rfl aY PySem.boot_len (zA (pv 5) zD))) (fun _ _=>rfl)) zD))))
  zT)
  (zZ (bN PassesOwn.never rfl (yM (pv 5)) (yJ (i:=7) cH.nd rfl (Or.inl rfl))
  (zG (zK (i:=4) cH.nd rfl (Or.inl rfl) (yC kj (pv 4) (zJ qY hr rfl eE qO eQ .nil yE (zA (pv 0) (zA (pv 7) (zA (pv 2) (zA (pv 3) zD)))))))))
  (zG (zO (pv 4)))))))))),?_⟩
 have ld:=yV rs
 have l10:=ok.l10
 refine aK fun G_ g_=>?_
 obtain⟨rv,ar,r,htr,X3,er,pQ,har⟩:=hR.at rl
 refine g_ ?_;clear g_
 have dr:=cI er
 have XR:iu rs room=decide (r.kind=("all" : Str)):=by
  unfold iu
  rw[jF er]
 refine⟨_,rfl,zI (by show 1<=1000;decide),fun po hpo=>?_⟩
 have u1:=zF hpo (.lst [V.int (room:Int)])
 have i1:upd H po (.lst [V.int (room:Int)]) po=some (.lst (aB [room])):=zC
 generalize upd H po (.lst [V.int (room:Int)])=H1 at u1 i1 ⊢
 refine⟨_,rfl,_,rfl,t,rv,_,_,rfl,rfl,aH.of (u1 _ _ htr),pQ,aD (aH.of (u1 _ _ har)) rfl ⟨rfl,_,rfl,?_⟩⟩
 have hf:=ok.fit room r er
 by_cases ep:r.kind=("plain" : Str)
 ·rw[ep]
  have kn:Tr.kids (aA rs) room=[]:=List.eq_nil_iff_forall_not_mem.mpr fun k hk=>by
   refine aK fun G_ g_=>?_
   obtain⟨k1,k2⟩:=Tr.bC.mp hk
   obtain⟨z1,z2⟩:=Bh k1 k2
   refine g_ ?_;clear g_
   rw[if_pos ⟨by lia,z2⟩,ep]at hf
   rcases hf with z | z
   ·exact absurd z (by decide +kernel)
   ·exact absurd z (by decide +kernel)
  refine yO ⟨_,rfl,q po [] H1 u1 hpo i1 ((Tr.Pj.base (iu rs) (by lia)).done (fun k hk=>by cases hk) (fun _=>kn.symm) fun _ z=>absurd kn z)⟩
 refine yN ep ?_
 refine⟨Nat.zero_le _,fun pi hpi=>?_⟩
 have npi:=u1.free hpi
 have nei:po ≠ pi:=zM i1 hpi
 have u2:=zF hpi (.lst [])
 have i2:upd H1 pi (.lst []) pi=some (.lst (aB [])):=zC
 generalize upd H1 pi (.lst [])=H2 at u2 i2 ⊢
 refine⟨_,rfl,bF ?_⟩
 refine⟨fun σ' H' => ∃ o6:Option V,aM H H'/\H' po=some (.lst (aB [room]))/\H' pi=some (.lst (aB (Tr.kids (aA rs) room)))/\σ'=[some (.ref t),some (.int (room:Int)),some (.ref a),some (.int at'),some (.ref po),some (.ref pi),o6,none],?_,?_⟩
 ·refine⟨fun mz σ' H' => ∃ k:Nat,mz=rs.length - k/\room+1<=k/\k<=rs.length/\aM H H'/\H' po=some (.lst (aB [room]))/\H' pi=some (.lst (aB (Tr.dZ (aA rs) room k)))/\(∀ i,room < i->i < k->(aA rs).getD room 0 < (aA rs).getD i 0)/\σ'=[some (.ref t),some (.int (room:Int)),some (.ref a),some (.int at'),some (.ref po),some (.ref pi),some (.int (k:Int)),none],
   ⟨_,room+1,rfl,bu _,by lia,u1.trans u2,u2 _ _ i1,by rw[Tr.rC _ _ _ (bu _)];exact i2,(fun i z1 z2=>by lia),rfl⟩,?_⟩
  rintro mz σ' H3 aP
  refine aK fun G_ g_=>?_
  obtain⟨k,rfl,k1,k2,s3,h3o,XN,hdp,rfl⟩:=aP
  refine g_ ?_;clear g_
  refine⟨fun c H'=>H'=H3/\(c=true->k < rs.length/\(aA rs).getD room 0 < (aA rs).getD k 0)/\(c=false->Tr.yW (aA rs) room k),?_,?_⟩
  ·refine⟨_,rfl,_,rfl,fW rfl (.inr (aH.of (s3 _ _ htr))) (bF ⟨_,rfl,cW (fun c=>?_) (fun c=>?_)⟩)⟩
   ·have c1:=of_decide_eq_true c
    have hk:k < rs.length:=by lia
    refine aK fun G_ g_=>?_
    obtain⟨qH,ak,rk,uy,_,ek,xU,hak⟩:=hR.at hk
    refine g_ ?_;clear g_
    rw[htr]at uy
    injection uy with z
    injection z with z
    subst z
    have dk:=cI ek
    refine⟨_,rfl,_,rfl,aD (aH.of (s3 _ _ htr)) xU (aD (aH.of (s3 _ _ hak)) rfl ⟨_,rfl,_,rfl,aD (aH.of (s3 _ _ htr)) pQ (aD (aH.of (s3 _ _ har)) rfl (bF ⟨_,rfl,rfl,fun z=>⟨hk,?_⟩,fun z=>⟨by lia,by lia,hdp,fun _=>?_⟩⟩))⟩)⟩
    ·have:=of_decide_eq_true z
     rw[dk,dr]
     exact this
    ·have:=of_decide_eq_false z
     rw[dk,dr]
     lia
   ·have c1:=of_decide_eq_false c
    exact⟨rfl,(fun z=>by cases z),fun _=>⟨by lia,by lia,hdp,fun z=>by lia⟩⟩
  rintro c H4 aP
  refine aK fun G_ g_=>?_
  obtain⟨rfl,ct,cf⟩:=aP
  refine g_ ?_;clear g_
  refine cW (fun z=>?_) (fun z=>?_)
  ·obtain⟨hk,hlt⟩:=ct z
   have qC1:∀ i,room < i->i < k+1->(aA rs).getD room 0 < (aA rs).getD i 0:=fun i z1 z2=>by
    by_cases y:i=k
    ·rw[y]
     exact hlt
    ·exact hdp i z1 (by lia)
   have Wr:Tr.par (aA rs) k=some room ↔ (aA rs).getD k 0=(aA rs).getD room 0+1:=by
    rw[Tr.sU ok.good (by lia)]
    refine⟨fun z=>z.2,fun z=>⟨?_,z⟩⟩
    unfold Tr.aJ
    rw[List.contains_iff_mem,Tr.qM]
    exact⟨by lia,fun j j1 j2=>qC1 j j1 (by lia)⟩
   refine⟨fun σ' H'=>aM H H'/\H' po=some (.lst (aB [room]))/\H' pi=some (.lst (aB (Tr.dZ (aA rs) room (k+1))))/\σ'=[some (.ref t),some (.int (room:Int)),some (.ref a),some (.int at'),some (.ref po),some (.ref pi),some (.int ((k+1:Nat):Int)),none],?_,?_⟩
   ·rintro σ' H' aP
    refine aK fun G_ g_=>?_
    obtain⟨z1,z2,z3,rfl⟩:=aP
    refine g_ ?_;clear g_
    exact⟨rs.length - (k+1),by lia,k+1,rfl,by lia,by lia,z1,z2,z3,qC1,rfl⟩
   refine⟨fun σ' H'=>aM H H'/\H' po=some (.lst (aB [room]))/\H' pi=some (.lst (aB (Tr.dZ (aA rs) room (k+1))))/\σ'=[some (.ref t),some (.int (room:Int)),some (.ref a),some (.int at'),some (.ref po),some (.ref pi),some (.int (k:Int)),none],?_,?_⟩
   ·refine aK fun G_ g_=>?_
    obtain⟨qH,ak,rk,uy,_,ek,xU,hak⟩:=hR.at hk
    refine g_ ?_;clear g_
    rw[htr]at uy
    injection uy with z
    injection z with z
    subst z
    have dk:=cI ek
    have lk:=Tr.nY (aA rs) room k
    refine⟨_,rfl,_,rfl,aD (aH.of (s3 _ _ htr)) xU (aD (aH.of (s3 _ _ hak)) rfl ⟨_,rfl,_,rfl,aD (aH.of (s3 _ _ htr)) pQ (aD (aH.of (s3 _ _ har)) rfl (bF ⟨rfl,_,rfl,cW (fun c4=>?_) (fun c4=>?_)⟩))⟩)⟩
    ·have c5:=of_decide_eq_true c4
     injection c5 with c5
     have pk:Tr.par (aA rs) k=some room:=Wr.mpr (by rw[dk,dr];exact c5)
     refine⟨_,rfl,.inl ⟨rfl,_,aX.of XN⟩,_,rfl,pi,_,_,rfl,rfl,XN,zV (by rw[zU];lia),cB npi s3 _,?_,?_,rfl⟩
     ·rw[zQ nei]
      exact h3o
     ·rw[zC,Tr.fZ,if_pos (by rw[pk];exact beq_self_eq_true _)]
      unfold aB
      rw[jH]
      rfl
    ·have c5:=of_decide_eq_false c4
     have pk:¬ Tr.par (aA rs) k=some room:=fun z=>c5 (by
      have:=Wr.mp z
      rw[dk,dr]at this
      rw[this])
     refine⟨s3,h3o,?_,rfl⟩
     rw[Tr.fZ,if_neg (fun z=>pk (eq_of_beq z)),dM]
     exact XN
   rintro σ' H5 aP
   refine aK fun G_ g_=>?_
   obtain⟨s5,h5o,h5i,rfl⟩:=aP
   refine g_ ?_;clear g_
   exact⟨_,rfl,bF ⟨s5,h5o,h5i,rfl⟩⟩
  ·refine⟨_,s3,h3o,?_,rfl⟩
   rw[Tr.Ft ok.good (cf z)]
   exact XN
 rintro σ' H3 aP
 refine aK fun G_ g_=>?_
 obtain⟨o6,s3,h3o,XN,rfl⟩:=aP
 refine g_ ?_;clear g_
 have kne:Tr.kids (aA rs) room ≠ []:=by
  by_cases z:room+1 < rs.length/\(aA rs).getD room 0 < (aA rs).getD (room+1) 0
  ·intro y
   have hm:room+1∈Tr.kids (aA rs) room:=Tr.bC.mpr ⟨by lia,Tr.jt.mpr ⟨by lia,z.2,fun i i1 i2=>by lia⟩⟩
   rw[y]at hm
   cases hm
  ·rw[if_neg z]at hf
   exact absurd hf ep
 have kr:=Tr.iD (aA rs) room
 have kl:(Tr.kids (aA rs) room).length<=10:=Nat.le_trans (Tr.nY (aA rs) room (aA rs).length) (by lia)
 refine⟨fun σ' H' => ∃(pj:Addr)(ks:List Nat),aM H H'/\H' po=some (.lst (aB [room]))/\H' pj=some (.lst (aB ks))/\(∀ k∈ks,k∈Tr.kids (aA rs) room)/\ks.Pairwise (· < ·)/\(iu rs room=true->ks=Tr.kids (aA rs) room)/\(iu rs room=false->∃ k,ks=[k])/\σ'=[some (.ref t),some (.int (room:Int)),some (.ref a),some (.int at'),some (.ref po),some (.ref pj),o6,none],?_,?_⟩
 ·refine⟨_,rfl,_,rfl,t,rv,_,_,rfl,rfl,aH.of (s3 _ _ htr),pQ,aD (aH.of (s3 _ _ har)) rfl ⟨rfl,_,rfl,?_⟩⟩
  by_cases eo:r.kind=("one" : Str)
  ·rw[eo]
   have lpos:0 < (Tr.kids (aA rs) room).length:=List.length_pos_iff.mpr kne
   refine yO ⟨_,rfl,_,rfl,_,rfl,_,rfl,bF ⟨a,ns,_,_,rfl,s3.seq hS,h63,⟨by lia,by lia⟩,⟨by decide,by decide⟩,fun y y0 y1=>?_⟩⟩
   have ln:=zU (Tr.kids (aA rs) room)
   refine aK fun G_ g_=>?_
   obtain⟨pk,hpm,Cr⟩:=xK (os:=Tr.kids (aA rs) room) (i:=y % (((aB (Tr.kids (aA rs) room)).length:Nat):Int)) (Int.emod_nonneg _ (by lia)) (by
    have:=Int.emod_lt_of_pos y (show (0:Int) < (((aB (Tr.kids (aA rs) room)).length:Nat):Int) by lia)
    lia)
   refine g_ ?_;clear g_
   refine⟨_,rfl,fW rfl (.inl (aX.of XN)) (bF ⟨(by show (0:Int) < (((aB (Tr.kids (aA rs) room)).length:Nat):Int);lia),cz (aX.of XN) Cr ⟨zI (by show 1<=1000;decide),fun p hp=>?_⟩⟩)⟩
   have u4:=zF hp (.lst [V.int (pk:Int)])
   refine⟨p,[pk],s3.trans u4,u4 _ _ h3o,zC,fun k hk=>by rw[cJ.mp hk];exact hpm,List.pairwise_singleton _ _,fun z=>?_,fun _=>⟨pk,rfl⟩,rfl⟩
   rw[XR,eo]at z
   exact absurd z (by decide +kernel)
  ·refine yN eo ⟨pi,_,s3,h3o,XN,fun k hk=>hk,kr,fun _=>rfl,fun z=>?_,rfl⟩
   rw[XR]at z
   have z:=of_decide_eq_false z
   split at hf
   ·rcases hf with y | y
    ·exact absurd y eo
    ·exact absurd y z
   ·exact absurd hf ep
 rintro σ' H4 aP
 refine aK fun G_ g_=>?_
 obtain⟨pj,ks,s4,h4o,h4j,hks,qBN,hal,hone,rfl⟩:=aP
 refine g_ ?_;clear g_
 have ksl:ks.length<=10:=Nat.le_trans (Tr.cL _ _ (Tr.bK qBN) fun k hk=>by
  have:=(Tr.bC.mp (hks k hk)).1
  lia) l10
 refine⟨fun σ' H' => ∃(pc:Addr)(os:List Nat)(o5 o7:Option V),aM H H'/\H pc=none/\H' pc=some (.lst (aB (room :: os)))/\Tr.Pj (aA rs) (iu rs) room ks (room :: os)/\σ'=[some (.ref t),some (.int (room:Int)),some (.ref a),some (.int at'),some (.ref pc),o5,o6,o7],?_,?_⟩
 ·refine⟨_,rfl,pj,rfl,⟨_,aX.of h4j⟩,?_⟩
  refine dC (K:=K) (a:=pj) (xs:=aB ks) (fun i σ' H' => ∃(pc:Addr)(os:List Nat)(o7:Option V),aM H4 H'/\H pc=none/\H' pc=some (.lst (aB (room :: os)))/\Tr.Pj (aA rs) (iu rs) room (ks.take i) (room :: os)/\σ'=[some (.ref t),some (.int (room:Int)),some (.ref a),some (.int at'),some (.ref pc),some (.ref pj),o6,o7])
   ⟨po,[],_,aM.refl _,hpo,h4o,Tr.Pj.base _ (by lia),rfl⟩ (fun i σ' H' _ ⟨_,_,_,z,_⟩=>aX.of (z _ _ h4j)) ?_ ?_
  ·rintro i x σ' H5 hx aP
   refine aK fun G_ g_=>?_
   obtain⟨pc,os,o7,s5,npc,rF,hI,rfl⟩:=aP
   obtain⟨hi,rfl⟩:=yR hx
   refine g_ ?_;clear g_
   have hk:=cj hi
   have hkm:=fB hi
   have pW:ks.take (i+1)=ks.take i++[ks[i]]:=by
    rw[gB,hk]
    rfl
   have before:∀ k∈ks.take i,k < ks[i]:=fun k hkt=>by
    refine aK fun G_ g_=>?_
    obtain⟨j,hj,rfl⟩:=List.mem_iff_getElem.mp hkt
    refine g_ ?_;clear g_
    rw[dN]at hj
    rw[List.getElem_take]
    exact List.pairwise_iff_getElem.mp qBN j i (by lia) hi (by lia)
   generalize ks[i]=kid at pW before hkm
   obtain⟨kl',kp⟩:=Tr.bC.mp (hks kid hkm)
   have kd:=((Tr.sU ok.good kl').mp kp).2
   have s45:=s4.trans s5
   refine⟨_,rfl,_,rfl,_,rfl,_,rfl,_,rfl,t,a,ns,rs,kid,_,at',rfl,rfl,hR.mono (aF.of s45),ok,by lia,by lia,s45.seq hS,h63,⟨a0,a1⟩,fun p6 os6 H6 s6 np6 yr hF=>?_⟩
   have l1:=WR l10 hI
   have l2:=Lr l10 hF
   refine⟨pc,p6,_,_,rfl,rfl,s6 _ _ rF,yr,(by rw[zU,zU,sizeLine_eq];lia),fun p7 XH=>?_⟩
   refine⟨p7,os++(kid :: os6),_,(s5.trans s6).trans (zF XH _),(s45.trans s6).free XH,by rw[zC];unfold aB;rw[<-jH];rfl,?_,rfl⟩
   rw[pW]
   exact hI.step hF kp fun k hkt=>⟨before k hkt,(Tr.bC.mp (hks k (List.mem_of_mem_take hkt))).2⟩
  ·rintro σ' H5 aP
   refine aK fun G_ g_=>?_
   obtain⟨pc,os,o7,s5,npc,rF,hI,rfl⟩:=aP
   refine g_ ?_;clear g_
   rw[zU,List.take_length]at hI
   exact⟨pc,os,_,_,s4.trans s5,npc,rF,hI,rfl⟩
 rintro σ' H5 aP
 refine aK fun G_ g_=>?_
 obtain⟨pc,os,o5,o7,s5,npc,rF,hI,rfl⟩:=aP
 refine g_ ?_;clear g_
 exact⟨_,rfl,q pc os H5 s5 npc rF (hI.done hks hal fun z _=>hone z)⟩
theorem RG{f:Addr}{fd:FuncData}:aL P w K mg base aq 2 f fd ["_law_rooms_here","_law_room","_law_script","_law_at"] (wM K 0):=by
 have no:∀ vs H Q E,¬ wM K 0 vs H Q E:=fun vs H Q E h=>by
  refine aK fun G_ g_=>?_
  obtain⟨t,a,ns,rs,room,ir,at',_,_,_,ok,rl,fuel,_⟩:=h
  refine g_ ?_;clear g_
  have:=ok.low room (by rw[yV];exact rl)
  lia
 exact⟨fun vs H Q E h=>absurd h (no vs H Q E),fun A outer s H args us vs Q E _ _ _ _ h=>absurd h (no vs H Q E)⟩
theorem Lp{f gm:Addr}{fd dm:FuncData}(F:cZ K "_law_opened" "_law_opened" gf f fd)(aW:aL P w K mg base aq 2 gm dm ["_law_script","_law_k","_law_salt"] (gF K))(aV:Binds K dm ["_law_script","_law_k","_law_salt"] [])(aU:KI K gm)(aR:mg "_law_mixed" = some (.ref gm))
  (eQ:Binds K fd ["_law_rooms_here","_law_room","_law_script","_law_at"] []) (eE:mg "_law_opened" = some (.ref f)) (aY:mg "len" = none):∀ n:Nat,aL P w K mg base aq (n+2) f fd ["_law_rooms_here","_law_room","_law_script","_law_at"] (wM K n)
 | 0=>RG
 | n+1=>YF F (aW.mono (by lia)) aV aU aR (Lp F aW aV aU aR eQ eE aY n) eQ F.kp eE aY
end
end Ru
namespace Ru
open PySem L2 mR oU tZ Ds yd jA
open mO (Al)
open vM
theorem T8(x:V)(xs:List V):lu (x :: xs) (some 1) none=xs:=by
 show (List.drop (if (1:Int) < 0 then ((1:Int)+((x :: xs).length:Int)).toNat else min (1:Int).toNat (x :: xs).length) (x :: xs)).take ((x :: xs).length - (if (1:Int) < 0 then ((1:Int)+((x :: xs).length:Int)).toNat else min (1:Int).toNat (x :: xs).length))=xs
 rw[if_neg (by decide)]
 have e:min (1:Int).toNat (x :: xs).length=1:=by
  rw[gC]
  show min 1 (xs.length+1)=1
  lia
 rw[e]
 exact List.take_of_length_le (by simp)
def Rw(n:Nat)(js:List Nat):Prop:=(∀ j∈js,j < n)/\js.length<=40
def Js(K:PySem.W.Frag):Sp:=fun vs H Q _ => ∃(pc a:Addr)(ns:List Int)(c:ig)(bs:List (Int × Int))(ne:Nat)(at':Int),vs=[.ref pc,.ref a,.int at']/\Wg H pc c bs ne/\Gq c bs ne/\aX K H a (ns.map V.int)/\ns.length<=63/\(0<=at'/\at'<=500) ∧
 ∀(ps:Addr)(s:S4)(H':Hp),aM H H'->dI H' ps s->s.l=[]->Tr.OpF (aA c.rs) (iu c.rs) 0 s.os->Jw c s.os s.ks->s.bx.length=c.sz.length->Q (.ref ps) H'
section
variable{P:Program}{w:World}{K:PySem.W.Frag}{mg:Str->Option Value}{base:Heap}
theorem bf:aN ["_law_chart_here","_law_script","_law_at","_law_rooms_here","_law_kept_here","_law_k","_law_row","_law_held"] ["_law_chart_here","_law_script","_law_at"] (aG lH):=⟨rfl,rfl,rfl,by decide +kernel,rfl,by decide +kernel,by decide +kernel⟩
theorem Qt{f gm go:Addr}{fd dm do':FuncData}(F:cZ K "_law_stand" "_law_stand" lH f fd)(aW:aL P w K mg base aq 7 gm dm ["_law_script","_law_k","_law_salt"] (gF K))(aV:Binds K dm ["_law_script","_law_k","_law_salt"] [])(aU:KI K gm)(aR:mg "_law_mixed" = some (.ref gm))
  (qY:aL P w K mg base aq 7 go do' ["_law_rooms_here","_law_room","_law_script","_law_at"] (wM K 5)) (eQ:Binds K do' ["_law_rooms_here","_law_room","_law_script","_law_at"] []) (qO:KI K go) (eE:mg "_law_opened" = some (.ref go))
  (aZ:mg "range" = none) (aY:mg "len" = none) (aa:mg "tuple" = none):aL P w K mg base aq 8 f fd ["_law_chart_here","_law_script","_law_at"] (Js K):=by
 refine F.ok bf (fun vs H Q E h=>?_) (fun cdv A outer s H vs Q E hr h=>?_)
 ·refine aK fun G_ g_=>?_
  obtain⟨pc,a,ns,c,bs,ne,at',rfl,_⟩:=h
  refine g_ ?_;clear g_
  rfl
 refine aK fun G_ g_=>?_
 obtain⟨pc,a,ns,c,bs,ne,at',rfl,hC,ok,hS,h63,⟨a0,a1⟩,q⟩:=h
 refine g_ ?_;clear g_
 refine⟨_,(zE (zK (i:=3) bf.nd rfl (Or.inr rfl) (yB zH (pv 0) zB (fun _ _=>rfl)))
  (zE (zK (i:=4) bf.nd rfl (Or.inl rfl) (yK zD))
  (zZ (bN PassesOwn.never rfl (bV rfl aZ (zA (zS zN rfl aY PySem.boot_len (zA (pv 3) zD)) zD)) (yJ (i:=5) bf.nd rfl (Or.inl rfl))
  (zE (zK (i:=6) bf.nd rfl (Or.inl rfl) (fH q9 (zJ qY hr rfl eE qO eQ .nil yE (zA (pv 3) (zA (pv 5) (zA (pv 1) (zA (yC yF (pv 2) (yC gM zB (pv 5))) zD))))) (iK zB) iM))
  (zZ (yD (bW (PW.pt (pw_or (zL yG (yB zH (yB zH (pv 3) (pv 5) (fun _ _=>rfl)) zB (fun _ _=>rfl)) zP (zR _)) (pw_or1 (zL yG (yC zY (zJ aW hr rfl aR aU aV .nil yE (zA (pv 1) (zA (yC yF (pv 2) (pv 5)) (zA zB zD)))) zB) zB (zR _))))))
  (zG (zK (i:=6) bf.nd rfl (Or.inl rfl) (yK zD)))
  zT)
  (zZ (yD (zL yG (yB zH (yB zH (pv 3) (pv 5) (fun _ _=>rfl)) zB (fun _ _=>rfl)) zP (zR _))
  (zG (zK (i:=6) bf.nd rfl (Or.inl rfl) (fH q9 (pv 6) iM (iK zB))))
  zT)
  (zZ (yD (zL yG (yB zH (yB zH (pv 3) (pv 5) (fun _ _=>rfl)) zB (fun _ _=>rfl)) zP (zR _))
  (zG (iJ (i:=6) (bY:=[(3,"_law_rooms_here")]) rfl bf.nd rfl (Or.inl rfl) (show bQ (aG lH) ["_law_chart_here","_law_script","_law_at","_law_rooms_here","_law_kept_here","_law_k","_law_row","_law_held"] _ _ _ from ⟨rfl,rfl,by decide +kernel,by decide +kernel,by decide +kernel,by decide +kernel,by decide +kernel⟩) (yM (pv 6)) (fun _ _ _ _ _ _=>bU (zL yG (yB (r:=fj K) zH (yB (r:=fj K) zH (pv 1) (pv 0) (fun _ _=>rfl)) zB (fun _ _=>rfl)) zP (zR _))) (fun _ _ _ _ _ _=>(pv 0))))
  zT)
  (zG (yI (bz PySem.F.plainAttrs_list PySem.F.slot_list_append PySem.F.type_list_append yH (pv 4) (zA (yA zX rfl aa PyProof.Rows.boot_tuple (zA (pv 6) zD)) zD)))))))))
  (zE (zK (i:=7) bf.nd rfl (Or.inl rfl) (yK zD))
  (zZ (bN PassesOwn.never rfl (bV rfl aZ (zA (zS zN rfl aY PySem.boot_len (zA (yB zH (pv 0) zB (fun _ _=>rfl)) zD)) zD)) (yJ (i:=5) bf.nd rfl (Or.inl rfl))
  (zG (yI (bz PySem.F.plainAttrs_list PySem.F.slot_list_append PySem.F.type_list_append yH (pv 7) (zA (yC zY (zJ aW hr rfl aR aU aV .nil yE (zA (pv 1) (zA (yC yF (pv 2) (pv 5)) (zA zB zD)))) (yB zH (yB zH (yB zH (pv 0) zB (fun _ _=>rfl)) (pv 5) (fun _ _=>rfl)) zB (fun _ _=>rfl))) zD)))))
  (zG (zO (zW (zA (yA zX rfl aa PyProof.Rows.boot_tuple (zA (zJ qY hr rfl eE qO eQ .nil yE (zA (pv 3) (zA zB (zA (pv 1) (zA (yC yF (pv 2) zB) zD))))) zD)) (zA (yA zX rfl aa PyProof.Rows.boot_tuple (zA (pv 7) zD)) (zA (yA zX rfl aa PyProof.Rows.boot_tuple (zA (pv 4) zD)) zD))))))))))),?_⟩
 refine aK fun G_ g_=>?_
 obtain⟨pb,pn,pt,pd,bv,nv,rv,dv,rF,hpb,hbx,_,_,htr,hrs,_⟩:=hC
 have hR:cD H pt c.rs:=⟨rv,htr,hrs⟩
 obtain⟨rs,ers⟩:∃ rs,rs=c.rs:=⟨_,rfl⟩
 refine g_ ?_;clear g_
 have rok:Xa c.rs:=⟨ok.ok.good,ok.low,ok.fit,ok.l10⟩
 have l10:=ok.l10
 have l1:=ok.ok.good.pos
 have lszb:c.sz.length=bs.length:=by rw[ok.sz,cM]
 have b6:=ok.ok.b6
 have dn:∀ k,k < c.rs.length->0<=(aA c.rs).getD k 0:=fun k hk=>ok.ok.good.nonneg k (by rw[yV];exact hk)
 rw[yV]at l1
 rw[<-ers]at hrs hR rok l10 l1 dn
 have X3:=hrs.length
 have lbv:=hbx.length
 refine⟨_,rfl,aD (aH.of rF) rfl ?_⟩
 refine⟨Nat.zero_le _,fun pk Cr=>?_⟩
 have s1:=zF Cr (.lst [])
 refine⟨fun σ' H' => ∃(vs:List V)(ks:List (List Nat)),aM H H'/\H' pk=some (.lst vs)/\bL H' vs ks/\ks.length=rs.length/\(∀ js∈ks,Rw rs.length js)/\∃ o5 o6:Option V,σ'=[some (.ref pc),some (.ref a),some (.int at'),some (.ref pt),some (.ref pk),o5,o6,none],?_,?_⟩
 ·refine⟨_,rfl,fW rfl (.inr (aH.of (s1 _ _ htr))) ⟨_,rfl,by lia,by lia,?_⟩⟩
  refine bR (fun i σ' H' => ∃(vs:List V)(ks:List (List Nat)),aM H H'/\H' pk=some (.lst vs)/\bL H' vs ks/\ks.length=i/\(∀ js∈ks,Rw rs.length js)/\∃ o5 o6:Option V,σ'=[some (.ref pc),some (.ref a),some (.int at'),some (.ref pt),some (.ref pk),o5,o6,none])
   ⟨[],[],s1,zC,.nil,rfl,(fun js h=>by cases h),none,none,rfl⟩ ?_ (fun σ' H' ⟨vs,ks,h1,h2,h3,h4,h5,h6⟩=>⟨vs,ks,h1,h2,h3,by simp at h4;lia,h5,h6⟩)
  rintro i σ' H3 hi aP
  refine aK fun G_ g_=>?_
  obtain⟨vs,ks,s3,h3,hA,hlen,hks,o5,o6,rfl⟩:=aP
  have hi':i < rs.length:=by
   simp at hi
   lia
  obtain⟨vr,hvr,ar,rfl,har⟩:=hrs.get (cj hi')
  refine g_ ?_;clear g_
  generalize hrr:rs[i]=r at har
  have pQ:oR rv (0+(i:Int))=some (.ref ar):=by
   rw[Int.zero_add]
   exact yQ hvr
  have dn':=dn i hi'
  refine⟨_,rfl,_,rfl,_,rfl,_,rfl,_,rfl,bF ⟨qu (by decide) (by decide),_,_,rfl,rfl,pt,a,ns,rs,i,(i:Int),at'+7 * (i:Int),(by show [V.ref pt,V.int (0+(i:Int)),V.ref a,V.int (at'+7 * (0+(i:Int)))]=_;rw[Int.zero_add]),rfl,hR.mono (aF.of s3),rok,hi',by lia,s3.seq hS,h63,⟨by lia,by lia⟩,fun p4 os H4 s4 np4 h4 V9=>?_⟩⟩
  refine⟨_,rfl,p4,_,rfl,aX.of h4,fun p5 vq=>?_⟩
  have qE6:lu (aB (i :: os)) (some 1) none=aB os:=T8 _ _
  rw[qE6]
  have s5:=s4.trans (zF vq (.lst (aB os)))
  have h5:upd H4 p5 (.lst (aB os)) p5=some (.lst (aB os)):=zC
  generalize upd H4 p5 (.lst (aB os))=H5 at s5 h5 ⊢
  have l4:=Lr l10 V9
  rw[gC]at l4
  have rw5:Rw rs.length os:=⟨fun o ho=>by have:=V9.lt o (List.mem_cons_of_mem _ ho);rw[yV]at this;exact this,by lia⟩
  have keep:∀(pr:Addr)(js:List Nat)(H':Hp),aM H3 H'->H' pr=some (.lst (aB js))->Rw rs.length js->∃(pr':Addr)(js':List Nat),aM H3 H'/\H' pr'=some (.lst (aB js'))/\Rw rs.length js'/\([some (.ref pc),some (.ref a),some (.int at'),some (.ref pt),some (.ref pk),some (.int (0+(i:Int))),some (.ref pr),none]:St)=[some (.ref pc),some (.ref a),some (.int at'),some (.ref pt),some (.ref pk),some (.int (0+(i:Int))),some (.ref pr'),none]:=fun pr js H' h1 h2 h3=>⟨pr,js,h1,h2,h3,rfl⟩
  refine⟨fun σ' H' => ∃(pr:Addr)(js:List Nat),aM H3 H'/\H' pr=some (.lst (aB js))/\Rw rs.length js/\σ'=[some (.ref pc),some (.ref a),some (.int at'),some (.ref pt),some (.ref pk),some (.int (0+(i:Int))),some (.ref pr),none],?_,?_⟩
  ·refine⟨fun c H'=>H'=H5,?_,?_⟩
   ·refine⟨_,rfl,_,rfl,pt,rv,_,_,rfl,rfl,aH.of ((s3.trans s5) _ _ htr),pQ,aD (aH.of ((s3.trans s5) _ _ har)) rfl ⟨rfl,_,rfl,cW (fun c=>rfl) (fun c=>?_)⟩⟩
    exact⟨_,rfl,_,rfl,_,rfl,bF ⟨a,ns,_,_,rfl,(s3.trans s5).seq hS,h63,⟨by lia,by lia⟩,⟨by decide,by decide⟩,fun y y0 y1=>(bF ⟨(by show (0:Int) < 3;decide),rfl,_,rfl,rfl⟩)⟩⟩
   rintro c H' rfl
   refine cW (fun c=>?_) (fun c=>keep p5 os _ s5 h5 rw5)
   exact⟨Nat.zero_le _,fun p hp=>keep p [] _ (s5.trans (zF hp _)) zC ⟨(fun j h=>by cases h),Nat.zero_le _⟩⟩
  rintro σ6 H6 aP
  refine aK fun G_ g_=>?_
  obtain⟨p6,j6,s6,h6,rw6,rfl⟩:=aP
  refine g_ ?_;clear g_
  refine⟨fun σ' H' => ∃(pr:Addr)(js:List Nat),aM H3 H'/\H' pr=some (.lst (aB js))/\Rw rs.length js/\σ'=[some (.ref pc),some (.ref a),some (.int at'),some (.ref pt),some (.ref pk),some (.int (0+(i:Int))),some (.ref pr),none],?_,?_⟩
  ·refine⟨_,rfl,_,rfl,pt,rv,_,_,rfl,rfl,aH.of ((s3.trans s6) _ _ htr),pQ,aD (aH.of ((s3.trans s6) _ _ har)) rfl ⟨rfl,_,rfl,cW (fun c=>?_) (fun c=>keep p6 j6 _ s6 h6 rw6)⟩⟩
   refine⟨_,rfl,_,rfl,p6,_,rfl,aX.of h6,fun p hp=>?_⟩
   have hc:lu (aB j6) none (some 1)=aB (j6.take 1):=by
    rw[tH _ (by decide)]
    exact List.map_take.symm
   rw[hc]
   exact keep p _ _ (s6.trans (zF hp _)) zC ⟨fun j h=>rw6.1 j (List.mem_of_mem_take h),Nat.le_trans (List.length_take_le _ _) (by lia)⟩
  rintro σ7 H7 aP
  refine aK fun G_ g_=>?_
  obtain⟨p7,j7,s7,h7,rw7,rfl⟩:=aP
  refine g_ ?_;clear g_
  refine⟨fun σ' H' => ∃(pr:Addr)(js:List Nat),aM H3 H'/\H' pr=some (.lst (aB js))/\Rw rs.length js/\σ'=[some (.ref pc),some (.ref a),some (.int at'),some (.ref pt),some (.ref pk),some (.int (0+(i:Int))),some (.ref pr),none],?_,?_⟩
  ·refine⟨_,rfl,_,rfl,pt,rv,_,_,rfl,rfl,aH.of ((s3.trans s7) _ _ htr),pQ,aD (aH.of ((s3.trans s7) _ _ har)) rfl ⟨rfl,_,rfl,cW (fun c=>?_) (fun c=>keep p7 j7 _ s7 h7 rw7)⟩⟩
   refine⟨_,rfl,p7,rfl,⟨_,aX.of h7⟩,?_⟩
   have l7:=zU j7
   refine yS (K:=K) (a:=p7) (xs:=aB j7) (fun i' acc H'=>H'=H7/\∃ js:List Nat,acc=aB js/\js.length<=i'/\i'<=j7.length/\∀ j∈js,j∈j7) ⟨rfl,[],rfl,bu _,Nat.zero_le _,fun j h=>by cases h⟩ (fun i acc H' ⟨e,_⟩=>by subst e;exact aX.of h7) (fun i' x acc H' hx ⟨e1,js,e2,e3,e4,e5⟩=>?_) (fun acc H' ⟨e1,js,e2,e3,e4,e5⟩ p hp=>?_)
   ·subst e1 e2
    refine aK fun G_ g_=>?_
    obtain⟨hi2,rfl⟩:=yR hx
    have hm:=fB hi2
    have hj:=rw7.1 _ hm
    obtain⟨v2,hv2,a2,rfl,ha2⟩:=hrs.get (cj hj)
    refine g_ ?_;clear g_
    refine⟨_,rfl,_,rfl,pt,rv,_,_,rfl,rfl,aH.of ((s3.trans s7) _ _ htr),yQ hv2,aD (aH.of ((s3.trans s7) _ _ ha2)) rfl ⟨rfl,_,rfl,cW (fun c=>?_) (fun c=>⟨rfl,js,rfl,by lia,by lia,e5⟩)⟩⟩
    have qDH:=rw7.2
    refine⟨_,rfl,zV (by rw[zU];lia),rfl,js++[j7[i']],(iB _ _),by simp;lia,by lia,fun j z=>?_⟩
    rcases cX.mp z with z | z
    ·exact e5 j z
    ·rw[cJ.mp z]
     exact hm
   subst e1 e2
   have qDH:=rw7.2
   exact keep p js _ (s7.trans (zF hp _)) zC ⟨fun j h=>rw7.1 j (e5 j h),by lia⟩
  rintro σ8 H8 aP
  refine aK fun G_ g_=>?_
  obtain⟨p8,j8,s8,h8,rw8,rfl⟩:=aP
  refine g_ ?_;clear g_
  have h8k:=s8 _ _ h3
  refine⟨_,rfl,.inl ⟨rfl,_,aX.of h8k⟩,_,rfl,p8,_,rfl,.inl ⟨aX.of h8,fun p9 hp9=>?_⟩⟩
  have u9:=zF hp9 (.tup (aB j8))
  have h9:=u9 _ _ h8k
  have lv:=hA.length
  have kl:=aF.lst h9 (.lst (vs++[.ref p9]))
  refine⟨pk,_,_,rfl,rfl,h9,zV (by lia),vs++[.ref p9],ks++[j8],cB Cr ((s3.trans s8).trans u9) _,zC,bL.snoc (hA.mono ((aF.of (s8.trans u9)).trans kl)) ⟨p9,rfl,kl _ _ zC⟩,by simp [hlen],fun js hj=>?_,_,_,rfl⟩
  rcases cX.mp hj with z | z
  ·exact hks js z
  ·rw[cJ.mp z]
   exact rw8
 rintro σ3 H3 aP
 refine aK fun G_ g_=>?_
 obtain⟨vs,ks,s3,h3,hA,hlen,hks,o5,o6,rfl⟩:=aP
 refine g_ ?_;clear g_
 refine⟨Nat.zero_le _,fun ph S8=>?_⟩
 have nph:H ph=none:=s3.free S8
 have s4:=zF S8 (.lst [])
 refine⟨fun σ' H' => ∃(xs:List Int),aM H3 H'/\H' ph=some (.lst (xs.map V.int))/\xs.length=bs.length/\∃ o5 o6:Option V,σ'=[some (.ref pc),some (.ref a),some (.int at'),some (.ref pt),some (.ref pk),o5,o6,some (.ref ph)],?_,?_⟩
 ·refine⟨_,rfl,aD (aH.of ((s3.trans s4) _ _ rF)) rfl (fW rfl (.inr (aH.of ((s3.trans s4) _ _ hpb))) ⟨_,rfl,by lia,by lia,?_⟩)⟩
  refine bR (fun i σ' H' => ∃(xs:List Int),aM H3 H'/\H' ph=some (.lst (xs.map V.int))/\xs.length=i/\∃ o5 o6:Option V,σ'=[some (.ref pc),some (.ref a),some (.int at'),some (.ref pt),some (.ref pk),o5,o6,some (.ref ph)])
   ⟨[],s4,zC,rfl,_,_,rfl⟩ ?_ (fun σ' H' ⟨xs,h1,h2,h3,h4⟩=>⟨xs,h1,h2,by simp at h3;lia,h4⟩)
  rintro i σ' H5 hi aP
  refine aK fun G_ g_=>?_
  obtain⟨xs,s5,h5,lx,p5,p6,rfl⟩:=aP
  have hi':i < bs.length:=by
   simp at hi
   lia
  obtain⟨vb,hvb,ab,nm,rfl,hab⟩:=hbx.get (cj hi')
  refine g_ ?_;clear g_
  have zp:0 < (bs[i]).1:=by have:=ok.st _ (fB hi');lia
  have Yy:oR bv (0+(i:Int))=some (.ref ab):=by
   rw[Int.zero_add]
   exact yQ hvb
  have Dm:=s3.trans s5
  refine⟨_,rfl,.inl ⟨rfl,_,aX.of h5⟩,_,rfl,_,rfl,_,rfl,bF ⟨a,ns,_,_,rfl,Dm.seq hS,h63,⟨by lia,by lia⟩,⟨by decide,by decide⟩,fun y y0 y1=>?_⟩⟩
  exact⟨_,rfl,aD (aH.of (Dm _ _ rF)) rfl ⟨_,rfl,pb,bv,_,_,rfl,rfl,aH.of (Dm _ _ hpb),Yy,aD (aH.of (Dm _ _ hab)) rfl (bF ⟨zp,ph,_,_,rfl,rfl,h5,zV (by rw[List.length_map];lia),xs++[_],cB S8 s5 _,(by rw[zC,List.map_append];rfl),by simp [lx],_,_,rfl⟩)⟩⟩
 rintro σ5 H5 aP
 refine aK fun G_ g_=>?_
 obtain⟨xs,s5,h5,lxs,p5,p6,rfl⟩:=aP
 refine g_ ?_;clear g_
 have Dm:=s3.trans s5
 have dn0:=dn 0 l1
 refine⟨_,rfl,_,rfl,_,rfl,bF ⟨pt,a,ns,rs,0,0,at'+90,rfl,rfl,hR.mono (aF.of Dm),rok,l1,by lia,Dm.seq hS,h63,⟨by lia,by lia⟩,fun p7 os H7 s7 np7 h7 V9=>?_⟩⟩
 refine⟨p7,_,rfl,.inl ⟨aX.of h7,fun p8 hp8=>?_⟩⟩
 have s8:=s7.trans (zF hp8 (.tup (aB (0 :: os))))
 have h88:upd H7 p8 (.tup (aB (0 :: os))) p8=some (.tup (aB (0 :: os))):=zC
 generalize upd H7 p8 (.tup (aB (0 :: os)))=H8 at s8 h88 ⊢
 refine⟨_,rfl,ph,_,rfl,.inl ⟨aX.of (s8 _ _ h5),fun p9 hp9=>?_⟩⟩
 have v9:=zF hp9 (.tup (xs.map V.int))
 have s9:=s8.trans (zF hp9 (.tup (xs.map V.int)))
 have h99:upd H8 p9 (.tup (xs.map V.int)) p9=some (.tup (xs.map V.int)):=zC
 generalize upd H8 p9 (.tup (xs.map V.int))=H9 at s9 v9 h99 ⊢
 have h9k:=(s5.trans s9) _ _ h3
 refine⟨_,rfl,pk,_,rfl,.inl ⟨aX.of h9k,fun xF Cu=>?_⟩⟩
 have Bj:=zF Cu (.tup vs)
 have w10:upd H9 xF (.tup vs) xF=some (.tup vs):=zC
 have k10:bL (upd H9 xF (.tup vs)) vs ks:=hA.mono (aF.of ((s5.trans s9).trans Bj))
 generalize upd H9 xF (.tup vs)=Je at Bj k10 w10 ⊢
 refine⟨zI (by show 3<=1000;decide),fun Qm yt=>?_⟩
 have Ly:=Bj.trans (zF yt (.tup [.ref p8,.ref p9,.ref xF]))
 have u':=zF yt (.tup [.ref p8,.ref p9,.ref xF])
 rw[ers]at V9 hlen hks
 have lt:∀ o∈0 :: os,o < c.rs.length:=fun o ho=>by have:=V9.lt o ho;rw[yV]at this;exact this
 exact q Qm ⟨0 :: os,xs,ks,[]⟩ _ (((Dm.trans s9).trans Bj).trans u') ⟨p8,p9,xF,vs,zC,Ly _ _ (v9 _ _ h88),Ly _ _ h99,u' _ _ w10,k10.mono (aF.of u')⟩ rfl V9 ⟨V9.rise,lt,hlen,fun r hr=>⟨(hks r hr).1,(hks r hr).2⟩⟩ (by show xs.length=c.sz.length;lia)
end
end Ru
namespace Ru
open PySem L2 mR oU tZ Ds yd jA
open mO (Al)
def QL:Sp:=fun vs H Q _ => ∃(td ph ts pq pr:Addr)(dv yj:List V)(ds:List Dd)(bx sz l:List Int)(gR:List En)(m:Nat),vs=[.ref td,.ref ph,.ref ts,.ref pq,.int (m:Int),.ref pr]/\H td=some (.tup dv)/\fc H dv ds/\H ph=some (.lst (bx.map V.int))/\H ts=some (.lst (sz.map V.int))/\H pq=some (.lst (l.map V.int))/\H pr=some (.lst yj)/\Al (bw H) yj gR/\gR.length<=900000/\ph ≠ pq/\ph ≠ pr/\pq ≠ pr/\ts ≠ ph/\ts ≠ pq/\ts ≠ pr ∧
 (∀ d∈ds,d.ok bx.length)/\ds.length<=8/\bx.length=sz.length/\bx.length<=6/\(∀ z∈sz,0 < z)/\l.length<=m/\m<=12 ∧
 ∀(rv:List V)(H':Hp),H' pr=some (.lst rv)->Al (bw H') rv (gR++(kZ sz m ds bx l).map En.rc)->H' ph=some (.lst ((oX sz ds bx).map V.int))->H' pq=some (.lst ((oW m ds l).map V.int))->(∀ b o,H b=some o->b ≠ ph->b ≠ pq->b ≠ pr->H' b=some o)->Q .non H'
theorem push{H:Hp}{pr p:Addr}{rv:List V}{rs:List En}(r:Rc)(hr:H pr=some (.lst rv))(x:Al (bw H) rv rs)(hp:H p=none) :
  (upd (upd H p (.tup r.row)) pr (.lst (rv++[.ref p]))) pr=some (.lst (rv++[.ref p]))/\Al (bw (upd (upd H p (.tup r.row)) pr (.lst (rv++[.ref p])))) (rv++[.ref p]) (rs++[En.rc r])/\(∀ b o,H b=some o->b ≠ pr->(upd (upd H p (.tup r.row)) pr (.lst (rv++[.ref p]))) b=some o):=by
 have np:pr ≠ p:=zM hr hp
 have fr:∀ b o,H b=some o->b ≠ pr->(upd (upd H p (.tup r.row)) pr (.lst (rv++[.ref p]))) b=some o:=fun b o e h=>by
  rw[zQ h,zQ (zM e hp)]
  exact e
 refine⟨zC,Al.snoc (x.mono fun _ _ z=>z.mono fun b ys e=>fr b _ e (cC e hr (by intro z;cases z))) ⟨p,rfl,?_⟩,fr⟩
 rw[zQ (Ne.symm np),zC]
 rfl
theorem Ed(xs:List Int)(j:Nat)(v:Int):(xs.map V.int).set j (.int v)=(xs.set j v).map V.int:=by
 rw[List.map_set]
theorem S5{n:Nat}{b:Int}(h0:0<=b)(h1:b < (n:Int)):UL n b=some b.toNat:=by
 unfold UL
 rw[if_pos h0,if_pos h1]
section
variable{P:Program}{w:World}{K:PySem.W.Frag}{mg:Str->Option Value}{base:Heap}
theorem pF:aN ["_law_deeds_here","_law_held","_law_sizes","_law_line","_law_most","_law_record","_law_deed_here","_law_b"] ["_law_deeds_here","_law_held","_law_sizes","_law_line","_law_most","_law_record"] (aG rR):=⟨rfl,rfl,rfl,by decide +kernel,rfl,by decide +kernel,by decide +kernel⟩
theorem R4{f:Addr}{fd:FuncData}(F:cZ K "_law_does" "_law_does" rR f fd)(aY:mg "len" = none):aL P w K mg base aq 1 f fd ["_law_deeds_here","_law_held","_law_sizes","_law_line","_law_most","_law_record"] QL:=by
 refine F.ok pF (fun vs H Q E h=>?_) (fun cdv A outer s H vs Q E hr h=>?_)
 ·refine aK fun G_ g_=>?_
  obtain⟨td,ph,ts,pq,pr,dv,yj,ds,bx,sz,l,gR,m,rfl,_⟩:=h
  refine g_ ?_;clear g_
  rfl
 refine aK fun G_ g_=>?_
 obtain⟨td,ph,ts,pq,pr,dv,yj,ds,bx,sz,l,gR,m,rfl,htd,hds,S8,hts,hpq,hpr,hA0,le0,RC,YK,nrq,tsh,tsq,tsr,hok,hd8,hbs,hb6,hpos,hlm,hm,q⟩:=h
 refine g_ ?_;clear g_
 refine⟨_,(zG (bN PassesOwn.never rfl (nJ (pv 0)) (yJ (i:=6) pF.nd rfl (Or.inl rfl))
  (zE (yD (zL yG (yB zH (pv 6) zB (fun _ _=>rfl)) zP (zR _))
  (zG (yI (bz PySem.F.plainAttrs_list PySem.F.slot_list_append PySem.F.type_list_append yH (pv 5) (zA (zW (zA zP (zA (yB zH (pv 6) zB (fun _ _=>rfl)) zD))) zD))))
  zT)
  (zE (yD (zL yG (yB zH (pv 6) zB (fun _ _=>rfl)) zP (zR _))
  (zG (Hc (yB zH (pv 6) zB (fun _ _=>rfl)) (Hg (pv 1) (yB zH (pv 6) zB (fun _ _=>rfl)) set_list)))
  zT)
  (zE (yD (zL yG (yB zH (pv 6) zB (fun _ _=>rfl)) zP (zR _))
  (zE (zK (i:=7) pF.nd rfl (Or.inl rfl) (yB zH (pv 6) zB (fun _ _=>rfl)))
  (zG (Hc (yC zY (yC yF (yB yU (pv 1) (pv 7) (fun _ _=>rfl)) (yB zH (pv 6) zB (fun _ _=>rfl))) (yB yU (pv 2) (pv 7) (fun _ _=>rfl))) (Hg (pv 1) (pv 7) set_list))))
  zT)
  (zE (yD (zL yG (zS zN rfl aY PySem.boot_len (zA (pv 6) zD)) zB (zR _))
  (zG (yI (bz PySem.F.plainAttrs_list PySem.F.slot_list_append PySem.F.type_list_append yH (pv 5) (zA (zW (zA zP (zA (yB zH (pv 6) zB (fun _ _=>rfl)) (zA (yB yU (pv 1) (yB zH (pv 6) zB (fun _ _=>rfl)) (fun _ _=>rfl)) zD)))) zD))))
  zT)
  (zG (yD (bW (PW.pt (pw_and (zL yG (yB zH (pv 6) zB (fun _ _=>rfl)) zP (zR _)) (yP (zL lQ (zS zN rfl aY PySem.boot_len (zA (pv 3) zD)) (pv 4) (zR _))))))
  (zE (yI (bz PySem.F.plainAttrs_list PySem.F.slot_list_append PySem.F.type_list_append yH (pv 3) (zA (yB zH (pv 6) zB (fun _ _=>rfl)) zD)))
  (zG (yI (bz PySem.F.plainAttrs_list PySem.F.slot_list_append PySem.F.type_list_append yH (pv 5) (zA (zW (zA zP (zA (yB zH (pv 6) zB (fun _ _=>rfl)) zD))) zD)))))
  (zG (yD (zL yG (yB zH (pv 6) zB (fun _ _=>rfl)) zP (zR _))
  (zG (yI (bz PySem.F.plainAttrs_list PySem.F.slot_list_append PySem.F.type_list_append yH (pv 5) (zA (zW (zA zP (zA (yB zH (pv 6) zB (fun _ _=>rfl)) zD))) zD))))
  zT)))))))))),?_⟩
 have ld:=hds.length
 let Pv:Nat->St->Hp->Prop:=fun i σ' H' => ∃ rv:List V,H' pr=some (.lst rv)/\Al (bw H') rv (gR++(kZ sz m (ds.take i) bx l).map En.rc)/\H' ph=some (.lst ((oX sz (ds.take i) bx).map V.int))/\H' pq=some (.lst ((oW m (ds.take i) l).map V.int))/\(∀ b o,H b=some o->b ≠ ph->b ≠ pq->b ≠ pr->H' b=some o)/\∃ o6 o7:Option V,σ'=[some (.ref td),some (.ref ph),some (.ref ts),some (.ref pq),some (.int (m:Int)),some (.ref pr),o6,o7]
 refine⟨_,rfl,td,rfl,⟨_,aH.of htd⟩,Ky (K:=K) (a:=td) (xs:=dv) Pv ?_ ?_ ?_ ?_⟩
 ·exact⟨yj,hpr,by show Al (bw H) yj (gR++[]);rw[dM];exact hA0,S8,hpq,fun b o e _ _ _=>e,none,none,rfl⟩
 ·rintro i σ' H' _ aP
  refine aK fun G_ g_=>?_
  obtain⟨rv,_,_,_,_,fr,_⟩:=aP
  refine g_ ?_;clear g_
  exact aH.of (fr _ _ htd (cC htd S8 (by intro z;cases z)) (cC htd hpq (by intro z;cases z)) (cC htd hpr (by intro z;cases z)))
 ·rintro i x σ' H' hx aP
  refine aK fun G_ g_=>?_
  obtain⟨rv,hrv,Dq,hbx,Vq,fr,o6,o7,rfl⟩:=aP
  obtain⟨d,ed,hd0⟩:=hds.get hx
  refine g_ ?_;clear g_
  have kt:aF H H':=fun b ys e=>fr b _ e (cC e S8 (by intro z;cases z)) (cC e hpq (by intro z;cases z)) (cC e hpr (by intro z;cases z))
  have hd:=hd0.mono kt
  have dok:=hok d (List.mem_of_getElem? ed)
  have tk:ds.take (i+1)=ds.take i++[d]:=by
   rw[gB,ed]
   rfl
  have il:i < ds.length:=(yZ.mp ed).1
  have lR:rv.length<=900008:=by
   rw[Dq.length,dJ,cM,pL,dN]
   lia
  have qDM:=fr _ _ hts tsh tsq tsr
  have lB:(oX sz (ds.take i) bx).length=bx.length:=sI _ _ _
  have lL:(oW m (ds.take i) l).length<=m:=sH _ _ hlm
  have fin:∀(H2:Hp)(rv':List V)(o6 o7:Option V),H2 pr=some (.lst rv')->Al (bw H2) rv' ((gR++(kZ sz m (ds.take i) bx l).map En.rc)++[En.rc (d.rc sz m (oX sz (ds.take i) bx) (oW m (ds.take i) l))])->H2 ph=some (.lst ((d.upd sz (oX sz (ds.take i) bx)).map V.int))->H2 pq=some (.lst ((d.X4 m (oW m (ds.take i) l)).map V.int))->(∀ b o,H b=some o->b ≠ ph->b ≠ pq->b ≠ pr->H2 b=some o)->Pv (i+1) [some (.ref td),some (.ref ph),some (.ref ts),some (.ref pq),some (.int (m:Int)),some (.ref pr),o6,o7] H2:=by
   intro H2 rv' o6 o7 a1 a2 a3 a4 a5
   refine⟨rv',a1,?_,?_,?_,a5,o6,o7,rfl⟩
   ·rw[tk,uG,jH,<-List.append_assoc]
    exact a2
   ·rw[tk,uI]
    exact a3
   ·rw[tk,uH]
    exact a4
  generalize (gR++(kZ sz m (ds.take i) bx l).map En.rc)=R at *
  generalize oX sz (ds.take i) bx=B at *
  generalize oW m (ds.take i) l=Ln at *
  cases hd with
  | @say a1 wd h1=>
   refine⟨_,rfl,aD (aH.of h1) rfl ⟨rfl,_,rfl,yO ?_⟩⟩
   refine⟨_,rfl,.inl ⟨rfl,_,aX.of hrv⟩,_,rfl,aD (aH.of h1) rfl ⟨zI (by show 2<=1000;decide),fun p hp=>?_⟩⟩
   refine aK fun G_ g_=>?_
   obtain⟨g1,g2,g3⟩:=push (.say wd) hrv Dq hp
   refine g_ ?_;clear g_
   refine⟨pr,_,_,rfl,rfl,(zQ (zM hrv hp)).trans hrv,(by rw[sizeLine_eq];lia),?_⟩
   have h2:=g3 _ _ h1 (cC h1 hrv (by intro z;cases z))
   refine⟨_,rfl,aD (aH.of h2) rfl ⟨rfl,_,rfl,yN (by decide) ?_⟩⟩
   refine⟨_,rfl,aD (aH.of h2) rfl ⟨rfl,_,rfl,yN (by decide) ?_⟩⟩
   refine⟨_,rfl,fW rfl (.inr (aH.of h2)) ⟨rfl,_,rfl,uQ (by rfl) ?_⟩⟩
   refine⟨fun c H3=>c=false/\H3=_,⟨_,rfl,aD (aH.of h2) rfl ⟨rfl,_,rfl,yN (by decide) ⟨rfl,rfl⟩⟩⟩,?_⟩
   rintro c H3 ⟨rfl,rfl⟩
   refine⟨_,rfl,aD (aH.of h2) rfl ⟨rfl,_,rfl,yN (by decide) ?_⟩⟩
   exact fin _ _ _ _ g1 g2 (g3 _ _ hbx YK) (g3 _ _ Vq nrq) fun b o e z1 z2 z3=>g3 _ _ (fr b o e z1 z2 z3) z3
  | @set a1 b n h1=>
   obtain⟨b0,b1⟩:=dok b rfl
   refine⟨_,rfl,aD (aH.of h1) rfl ⟨rfl,_,rfl,yN (by decide) ?_⟩⟩
   refine⟨_,rfl,aD (aH.of h1) rfl ⟨rfl,_,rfl,yO ?_⟩⟩
   refine⟨_,rfl,aD (aH.of h1) rfl ⟨_,rfl,_,rfl,aD (aH.of h1) rfl ⟨ph,_,b,b.toNat,rfl,rfl,hbx,S5 b0 (by rw[cM,lB];exact b1),?_⟩⟩⟩
   rw[Ed]
   let B':List Int:=B.set b.toNat n
   let H1:Hp:=upd H' ph (.lst (B'.map V.int))
   have qe:H1 pr=some (.lst rv):=(zQ (Ne.symm YK)).trans hrv
   have S7:Al (bw H1) rv R:=Dq.mono fun _ _ z=>z.mono (aF.lst hbx _)
   have h2:H1 a1=_:=(zQ (cC h1 hbx (by intro z;cases z))).trans h1
   have SM:H1 ph=some (.lst (B'.map V.int)):=zC
   have lB':B'.length=bx.length:=(List.length_set).trans lB
   refine⟨_,rfl,aD (aH.of h2) rfl ⟨rfl,_,rfl,yN (by decide) ?_⟩⟩
   refine⟨_,rfl,fW rfl (.inr (aH.of h2)) ⟨rfl,_,rfl,vG (by rfl) ?_⟩⟩
   refine⟨_,rfl,.inl ⟨rfl,_,aX.of qe⟩,_,rfl,aD (aH.of h2) rfl ⟨_,rfl,_,rfl,aD (aH.of h2) rfl (cz (aX.of SM) (oH b0 (by rw[lB'];exact b1)) ⟨zI (by show 3<=1000;decide),fun p hp=>?_⟩)⟩⟩
   refine aK fun G_ g_=>?_
   obtain⟨g1,g2,g3⟩:=push (.put b (at0 B' b)) qe S7 hp
   refine g_ ?_;clear g_
   refine⟨pr,_,_,rfl,rfl,(zQ (zM qe hp)).trans qe,(by rw[sizeLine_eq];lia),?_⟩
   have h3:=g3 _ _ h2 (cC h2 qe (by intro z;cases z))
   refine⟨fun c H3=>c=false/\H3=_,⟨_,rfl,aD (aH.of h3) rfl ⟨rfl,_,rfl,yN (by decide) ⟨rfl,rfl⟩⟩⟩,?_⟩
   rintro c H3 ⟨rfl,rfl⟩
   refine⟨_,rfl,aD (aH.of h3) rfl ⟨rfl,_,rfl,yN (by decide) ?_⟩⟩
   exact fin _ _ _ _ g1 g2 (g3 _ _ SM YK) (g3 _ _ ((zQ (Ne.symm RC)).trans Vq) nrq) fun c o e z1 z2 z3=>g3 _ _ ((zQ z1).trans (fr c o e z1 z2 z3)) z3
  | @add a1 b n h1=>
   obtain⟨b0,b1⟩:=dok b rfl
   have b2:b < (sz.length:Int):=by lia
   have pz:=hpos _ (Lj b0 b2)
   refine⟨_,rfl,aD (aH.of h1) rfl ⟨rfl,_,rfl,yN (by decide) ?_⟩⟩
   refine⟨_,rfl,aD (aH.of h1) rfl ⟨rfl,_,rfl,yN (by decide) ?_⟩⟩
   refine⟨_,rfl,aD (aH.of h1) rfl ⟨rfl,_,rfl,yO ?_⟩⟩
   refine⟨_,rfl,aD (aH.of h1) rfl ?_⟩
   refine⟨_,rfl,_,rfl,cz (aX.of hbx) (oH b0 (by rw[lB];exact b1)) ⟨_,rfl,aD (aH.of h1) rfl (bF ⟨_,rfl,_,rfl,cz (aX.of qDM) (oH b0 b2) (bF ⟨pz,_,rfl,_,rfl,ph,_,b,b.toNat,rfl,rfl,hbx,S5 b0 (by rw[cM,lB];exact b1),?_⟩)⟩)⟩⟩
   rw[Ed]
   let B':List Int:=B.set b.toNat ((at0 B b+n) % at0 sz b)
   let H1:Hp:=upd H' ph (.lst (B'.map V.int))
   have qe:H1 pr=some (.lst rv):=(zQ (Ne.symm YK)).trans hrv
   have S7:Al (bw H1) rv R:=Dq.mono fun _ _ z=>z.mono (aF.lst hbx _)
   have h2:H1 a1=_:=(zQ (cC h1 hbx (by intro z;cases z))).trans h1
   have SM:H1 ph=some (.lst (B'.map V.int)):=zC
   have lB':B'.length=bx.length:=(List.length_set).trans lB
   refine⟨_,rfl,fW rfl (.inr (aH.of h2)) ⟨rfl,_,rfl,vG (by rfl) ?_⟩⟩
   refine⟨_,rfl,.inl ⟨rfl,_,aX.of qe⟩,_,rfl,aD (aH.of h2) rfl ⟨_,rfl,_,rfl,aD (aH.of h2) rfl (cz (aX.of SM) (oH b0 (by rw[lB'];exact b1)) ⟨zI (by show 3<=1000;decide),fun p hp=>?_⟩)⟩⟩
   refine aK fun G_ g_=>?_
   obtain⟨g1,g2,g3⟩:=push (.put b (at0 B' b)) qe S7 hp
   refine g_ ?_;clear g_
   refine⟨pr,_,_,rfl,rfl,(zQ (zM qe hp)).trans qe,(by rw[sizeLine_eq];lia),?_⟩
   have h3:=g3 _ _ h2 (cC h2 qe (by intro z;cases z))
   refine⟨fun c H3=>c=false/\H3=_,⟨_,rfl,aD (aH.of h3) rfl ⟨rfl,_,rfl,yN (by decide) ⟨rfl,rfl⟩⟩⟩,?_⟩
   rintro c H3 ⟨rfl,rfl⟩
   refine⟨_,rfl,aD (aH.of h3) rfl ⟨rfl,_,rfl,yN (by decide) ?_⟩⟩
   exact fin _ _ _ _ g1 g2 (g3 _ _ SM YK) (g3 _ _ ((zQ (Ne.symm RC)).trans Vq) nrq) fun c o e z1 z2 z3=>g3 _ _ ((zQ z1).trans (fr c o e z1 z2 z3)) z3
  | @send a1 e h1=>
   refine⟨_,rfl,aD (aH.of h1) rfl ⟨rfl,_,rfl,yN (by decide) ?_⟩⟩
   refine⟨_,rfl,aD (aH.of h1) rfl ⟨rfl,_,rfl,yN (by decide) ?_⟩⟩
   refine⟨_,rfl,aD (aH.of h1) rfl ⟨rfl,_,rfl,yN (by decide) ?_⟩⟩
   refine⟨_,rfl,fW rfl (.inr (aH.of h1)) ⟨rfl,_,rfl,uQ (by rfl) ?_⟩⟩
   refine⟨fun c H3=>c=decide (((Ln.length:Nat):Int) < (m:Int))/\H3=H',⟨_,rfl,aD (aH.of h1) rfl ⟨rfl,_,rfl,yO ⟨_,rfl,fW rfl (.inl (aX.of Vq)) ⟨_,rfl,bF ⟨_,rfl,by rw[cM],rfl⟩⟩⟩⟩⟩,?_⟩
   rintro c H3 ⟨rfl,rfl⟩
   refine oZ (fun c=>?_) (fun c=>?_)
   ·have c':=of_decide_eq_true c
    have c2:Ln.length < m:=by lia
    have eL:added m Ln e=Ln++[e]:=by
     unfold added
     rw[if_pos c2]
    have eR:(Dd.send e).rc sz m B Ln = .send e:=by
     show (if Ln.length < m then Rc.send e else Rc.lost e)=_
     rw[if_pos c2]
    refine⟨_,rfl,.inl ⟨rfl,_,aX.of Vq⟩,_,rfl,aD (aH.of h1) rfl ⟨pq,_,_,rfl,rfl,Vq,zV (by rw[cM];lia),?_⟩⟩
    let H1:Hp:=upd H3 pq (.lst (Ln.map V.int++[.int e]))
    have qe:H1 pr=some (.lst rv):=(zQ (Ne.symm nrq)).trans hrv
    have S7:Al (bw H1) rv R:=Dq.mono fun _ _ z=>z.mono (aF.lst Vq _)
    have h2:H1 a1=_:=(zQ (cC h1 Vq (by intro z;cases z))).trans h1
    have qE1:H1 pq=some (.lst ((added m Ln e).map V.int)):=by
     rw[eL,jH]
     exact zC
    refine⟨_,rfl,.inl ⟨rfl,_,aX.of qe⟩,_,rfl,aD (aH.of h2) rfl ⟨zI (by show 2<=1000;decide),fun p hp=>?_⟩⟩
    refine aK fun G_ g_=>?_
    obtain⟨g1,g2,g3⟩:=push (.send e) qe S7 hp
    refine g_ ?_;clear g_
    refine⟨pr,_,_,rfl,rfl,(zQ (zM qe hp)).trans qe,(by rw[sizeLine_eq];lia),?_⟩
    exact fin _ _ _ _ g1 (by rw[eR];exact g2) (g3 _ _ ((zQ RC).trans hbx) YK) (g3 _ _ qE1 nrq) fun c o e z1 z2 z3=>g3 _ _ ((zQ z2).trans (fr c o e z1 z2 z3)) z3
   ·have c':¬ ((Ln.length:Nat):Int) < (m:Int):=fun z=>c (decide_eq_true z)
    have c2:¬ Ln.length < m:=by lia
    have eL:added m Ln e=Ln:=by
     unfold added
     rw[if_neg c2]
    have eR:(Dd.send e).rc sz m B Ln = .lost e:=by
     show (if Ln.length < m then Rc.send e else Rc.lost e)=_
     rw[if_neg c2]
    refine⟨_,rfl,aD (aH.of h1) rfl ⟨rfl,_,rfl,yO ?_⟩⟩
    refine⟨_,rfl,.inl ⟨rfl,_,aX.of hrv⟩,_,rfl,aD (aH.of h1) rfl ⟨zI (by show 2<=1000;decide),fun p hp=>?_⟩⟩
    refine aK fun G_ g_=>?_
    obtain⟨g1,g2,g3⟩:=push (.lost e) hrv Dq hp
    refine g_ ?_;clear g_
    refine⟨pr,_,_,rfl,rfl,(zQ (zM hrv hp)).trans hrv,(by rw[sizeLine_eq];lia),?_⟩
    exact fin _ _ _ _ g1 (by rw[eR];exact g2) (g3 _ _ hbx YK) (by show _=some (HO.lst ((added m Ln e).map V.int));rw[eL];exact g3 _ _ Vq nrq) fun c o e z1 z2 z3=>g3 _ _ (fr c o e z1 z2 z3) z3
 ·rintro σ' H' aP
  refine aK fun G_ g_=>?_
  obtain⟨rv,a1,a2,a3,a4,a5,o6,o7,rfl⟩:=aP
  refine g_ ?_;clear g_
  rw[ld,List.take_length]at a2 a3 a4
  exact q rv H' a1 a2 a3 a4 a5
end
inductive jm(c:ig)(gR:List En)(s0:S4):Nat->List En->S4->Prop where
 | one:jm c gR s0 1 gR s0
 | more {n:Nat} {es e2:List En} {s s2:S4} {e:Int} {l:List Int}:jm c gR s0 n es s->n < c.tn->s.l=e :: l->pY c e ⟨s.os,s.bx,s.ks,l⟩ e2 s2->jm c gR s0 (n+1) (es++e2) s2
def nT(l:List Int):List En:=l.map fun e=>En.rc (.lost e)
def Dy(C:Addr)(n:Nat):Sp:=fun vs H Q _ => ∃(pc ps pr p:Addr)(c:ig)(s:S4)(es:List En)(rv:List V)(fp:List Addr)(J:List Nat->List (List Nat)->Prop),vs=[.ref pc,.ref ps,.ref pr,.ref p]/\za H pc c/\All c J n/\dI H ps s/\pZ c s/\J s.os s.ks/\LL C H p fp c.lb s.l/\H pr=some (.lst rv)/\Al (bw H) rv es/\es.length<=40001/\c.tn<=20 ∧
 ∀(t ps' pw:Addr)(wv:List V)(n':Nat)(es':List En)(s':S4)(fp':List Addr)(H':Hp),jm c es s n' es' s'->(c.tn<=n' ∨ s'.l=[])->J s'.os s'.ks->pZ c s'->cP H H' fp fp'->H' t=some (.tup [.ref ps',.ref pw])->dI H' ps' s'->H' pw=some (.lst wv)->H pw=none->pw ∉ fp'->Al (bw H') wv (es'++nT s'.l)->wv.length<=1000000->Q (.ref t) H'
theorem dI.tail{H:Hp}{ps:Addr}{s:S4}(x:dI H ps s)(l:List Int):dI H ps ⟨s.os,s.bx,s.ks,l⟩:=x
section
variable{P:Program}{w:World}{K:PySem.W.Frag}{mg:Str->Option Value}{base:Heap}{C:Addr}
theorem gW:aN ["chart","stand","record","letters","now","whole","turns","told"] ["chart","stand","record","letters"] (aG pH):=⟨rfl,rfl,rfl,by decide +kernel,rfl,by decide +kernel,by decide +kernel⟩
theorem Mg{n m:Nat}{f g1 gt gw:Addr}{fd d1 dt dw:FuncData}(F:cZ K "rested" "rested" pH f fd)(cl:Dt K C)
  (mT:Meth K C "taken" gt) (Wf:aL P w K mg base aq m gt dt ["self"] (Jr (LL C))) (WD:Binds K dt ["self"] [])
  (mW:Meth K C "waiting" gw) (Bf:aL P w K mg base aq m gw dw ["self"] (zj (LL C))) (BZ:Binds K dw ["self"] [])
  (Jg:aL P w K mg base aq m g1 d1 ["chart","stand","event","letters"] (HF C n)) (JS:Binds K d1 ["chart","stand","event","letters"] []) (Iz:KI K g1) (Il:mg "turn" = some (.ref g1))
  (aY:mg "len" = none) (dH:mg "list" = none):aL P w K mg base aq (m+1) f fd ["chart","stand","record","letters"] (Dy C n):=by
 refine F.ok gW (fun vs H Q E h=>?_) (fun cdv A outer s H vs Q E hr h=>?_)
 ·refine aK fun G_ g_=>?_
  obtain⟨pc,ps,pr,p,c,s,es,rv,fp,J,rfl,_⟩:=h
  refine g_ ?_;clear g_
  rfl
 refine aK fun G_ g_=>?_
 obtain⟨pc,ps,pr,p,c,st,gR,yj,fp,J,rfl,hC,al,hS,so,js,hL,hpr,hA,le0,Xk,q⟩:=h
 refine g_ ?_;clear g_
 refine⟨_,(zE (zK (i:=4) gW.nd rfl (Or.inl rfl) (pv 1))
  (zE (zK (i:=5) gW.nd rfl (Or.inl rfl) (yA eO rfl dH PyProof.Rows.boot_list (zA (pv 2) zD)))
  (zE (zK (i:=6) gW.nd rfl (Or.inl rfl) zB)
  (zZ (pM PassesOwn.never (bW (PW.pt (pw_and (zL lQ (pv 6) (yB zH (pv 0) zB (fun _ _=>rfl)) (zR _)) (yP (zL fY (zS zN rfl aY PySem.boot_len (zA (wg (pv 3) cl mW Bf hr BZ .nil yE) zD)) zB (zR _))))))
  (zE (zK (i:=7) gW.nd rfl (Or.inl rfl) (zJ Jg hr rfl Il Iz JS .nil yE (zA (pv 0) (zA (pv 4) (zA (wg (pv 3) cl mT Wf hr WD .nil yE) (zA (pv 3) zD))))))
  (zE (zK (i:=4) gW.nd rfl (Or.inl rfl) (yB zH (pv 7) zB (fun _ _=>rfl)))
  (zE (yI (bz PySem.F.plainAttrs_list PySem.F.slot_list_extend PySem.F.type_list_extend jM (pv 5) (zA (yB zH (pv 7) zB (fun _ _=>rfl)) zD)))
  (zG (Y0 (i:=6) gW.nd rfl (Or.inl rfl) zB Ym))))))
  (zE (yI (bz PySem.F.plainAttrs_list PySem.F.slot_list_extend PySem.F.type_list_extend jM (pv 5) (zA (yT (bY:=[]) rfl (show bQ (aG pH) ["chart","stand","record","letters","now","whole","turns","told"] _ _ _ from ⟨rfl,rfl,by decide +kernel,by decide +kernel,by decide +kernel,by decide +kernel,by decide +kernel⟩) (yM (wg (pv 3) cl mW Bf hr BZ .nil yE)) (fun _ _ _ _ _ _=>fG) (fun _ _ _ _ _ _=>zW (zA zP (zA (pv 0) zD)))) zD)))
  (zG (zO (zW (zA (pv 4) (zA (pv 5) zD)))))))))),?_⟩
 have lA:=hA.length
 refine⟨_,rfl,_,rfl,fW rfl (.inl (aX.of hpr)) (fun pw Vo=>?_)⟩
 have u1:=zF Vo (.lst yj)
 have i1:upd H pw (.lst yj) pw=some (.lst yj):=zC
 generalize upd H pw (.lst yj)=H1 at u1 i1 ⊢
 refine aK fun G_ g_=>?_
 obtain⟨pb,t,pd,x4,bv,dv,h1,h2,h3,h4,h5,h6,h7⟩:=id hC
 refine g_ ?_;clear g_
 refine⟨fun σ' Hi => ∃(nt:Nat)(fu:Addr)(cg:List Addr)(rv:List V)(es:List En)(si:S4)(o6 o7:Option V),σ'=[some (.ref pc),some (.ref ps),some (.ref pr),some (.ref p),some (.ref fu),some (.ref pw),o6,o7]/\cP H Hi fp cg/\LL C Hi p cg c.lb si.l/\dI Hi fu si/\pZ c si/\J si.os si.ks/\jm c gR st nt es si/\(c.tn<=nt ∨ si.l=[])/\Hi pw=some (.lst rv)/\pw ∉ cg/\Al (bw Hi) rv es/\es.length<=900000,?_,?_⟩
 ·refine⟨fun ms σ' Hi => ∃(nt:Nat)(fu:Addr)(cg:List Addr)(rv:List V)(es:List En)(si:S4)(o7:Option V),ms=20 - nt/\σ'=[some (.ref pc),some (.ref ps),some (.ref pr),some (.ref p),some (.ref fu),some (.ref pw),some (.int (nt:Int)),o7]/\cP H Hi fp cg/\LL C Hi p cg c.lb si.l/\dI Hi fu si/\pZ c si/\J si.os si.ks/\jm c gR st nt es si/\Hi pw=some (.lst rv)/\pw ∉ cg/\Al (bw Hi) rv es/\es.length<=40001 * nt/\nt<=20,
   ⟨_,1,ps,fp,yj,gR,st,_,rfl,rfl,cP.same fp u1,LL.same hL u1,hS.mono (aF.of u1),so,js,.one,i1,LL.new hL Vo,hA.mono fun _ _ z=>z.mono (aF.of u1),by lia,by decide⟩,?_⟩
  rintro ms σ' Hi aP
  refine aK fun G_ g_=>?_
  obtain⟨nt,fu,cg,rv,es,si,o7,rfl,rfl,U6,hLi,hSi,Dl,ji,RR,hwi,nwi,yu,lei,n20⟩:=aP
  refine g_ ?_;clear g_
  have kt:=cP.keep U6 hL
  refine⟨fun b H' => ∃ fp':List Addr,cP Hi H' cg fp'/\LL C H' p fp' c.lb si.l/\(b=true->nt < c.tn/\si.l ≠ [])/\(b=false->c.tn<=nt ∨ si.l=[]),?_,?_⟩
  ·refine⟨_,rfl,_,rfl,aD (aH.of (kt _ _ h1)) rfl (bF ⟨_,rfl,cW (fun z=>?_) (fun z=>?_)⟩)⟩
   ·have z1:=of_decide_eq_true z
    refine aK fun G_ g_=>?_
    obtain⟨dx,fs,ho,n1,n2,n3⟩:=(jB C).obj hLi
    refine g_ ?_;clear g_
    refine⟨_,rfl,p,dx,fs,rfl,ho,n3,p,cg,c.lb,si.l,rfl,hLi,Dl.l,al.ok.NZ,fun qa fp' H' hL' st' nq nqf hqa=>?_⟩
    refine (fW rfl (.inl (aX.of hqa)) (bF ⟨_,rfl,fp',st',hL',fun z2=>⟨by lia,fun z3=>?_⟩,fun z2=>.inr ?_⟩))
    ·rw[z3]at z2
     cases z2
    ·have z2:=of_decide_eq_false z2
     rw[cM]at z2
     exact List.eq_nil_of_length_eq_zero (by lia)
   ·have z1:=of_decide_eq_false z
    exact⟨cg,cP.same cg (aM.refl _),hLi,(fun z=>by cases z),fun _=>.inl (by lia)⟩
  rintro b H2 aP
  refine aK fun G_ g_=>?_
  obtain⟨xX,st2,hL2,ht,hf⟩:=aP
  refine g_ ?_;clear g_
  have k2:=cP.keep st2 hLi
  have hw2:=cP.apart st2 hwi nwi
  have qB2:=cP.trans U6 st2
  refine cW (fun z=>?_) (fun z=>?_)
  ·refine aK fun G_ g_=>?_
   obtain⟨lt,ne⟩:=ht z
   obtain⟨e,l',el⟩:∃ e l',si.l=e :: l':=by
    cases hl:si.l with
    | nil=>exact absurd hl ne
    | cons e l'=>exact⟨e,l',rfl⟩
   refine g_ ?_;clear g_
   refine⟨fun σ' H' => ∃(fu:Addr)(cg:List Addr)(rv:List V)(es:List En)(si:S4)(o7:Option V),σ'=[some (.ref pc),some (.ref ps),some (.ref pr),some (.ref p),some (.ref fu),some (.ref pw),some (.int ((nt+1:Nat):Int)),o7]/\cP H H' fp cg/\LL C H' p cg c.lb si.l/\dI H' fu si/\pZ c si/\J si.os si.ks/\jm c gR st (nt+1) es si/\H' pw=some (.lst rv)/\pw ∉ cg/\Al (bw H') rv es/\es.length<=40001 * (nt+1),?_,?_⟩
   ·rintro σ' H' aP
    refine aK fun G_ g_=>?_
    obtain⟨fu,cg,rv,es,si,o7,z1,z2,z3,z4,z5,z6,z7,z8,z9,z10,z11⟩:=aP
    refine g_ ?_;clear g_
    exact⟨20 - (nt+1),by lia,nt+1,fu,cg,rv,es,si,o7,rfl,z1,z2,z3,z4,z5,z6,z7,z8,z9,z10,z11,by lia⟩
   refine aK fun G_ g_=>?_
   obtain⟨dx,fs,ho,n1,n2,n3⟩:=(jB C).obj hL2
   refine g_ ?_;clear g_
   refine⟨_,rfl,_,rfl,_,rfl,p,dx,fs,rfl,ho,n2,p,xX,c.lb,si.l,rfl,hL2,Dl.l,al.ok.NZ,fun fp3 H3 hL3 st3=>?_⟩
   have k3:=cP.keep st3 hL2
   have hw3:=cP.apart st3 hw2.1 hw2.2
   have qB1:=cP.trans qB2 st3
   have k03:=cP.keep qB1 hL
   rw[el]at hL3 ⊢
   have ll:=Dl.l
   rw[el,gC]at ll
   refine⟨_,rfl,pc,fu,p,c,e,⟨si.os,si.bx,si.ks,l'⟩,fp3,J,rfl,hC.mono k03,al,(hSi.mono (k2.trans k3)).tail l',⟨Dl.inc,Dl.lt,Dl.Hz,Dl.bx,Dl.ks,by show l'.length<=_;lia⟩,ji,hL3,fun tt ps2 PQ qH s2 es2 fp4 H4 TR j4 hL4 st4 htt hS4 so4 hr4 nr4 nrf4 hA4 le4=>?_⟩
   have k4:=cP.keep st4 hL3
   have hw4:=cP.apart st4 hw3.1 hw3.2
   have qCU:=cP.trans qB1 st4
   have nerw:PQ ≠ pw:=fun z=>by rw[z,hw3.1]at nr4;cases nr4
   have lAi:=yu.length
   have lA4:=hA4.length
   refine⟨_,rfl,aD (aH.of htt) rfl ?_⟩
   refine⟨_,rfl,.inl ⟨rfl,_,aX.of hw4.1⟩,_,rfl,aD (aH.of htt) rfl ⟨pw,PQ,_,_,rfl,rfl,hw4.1,hr4,(by rw[sizeLine_eq];lia),?_⟩⟩
   have k5:=aF.lst hw4.1 (.lst (rv++qH))
   have Fw:=k2.trans (k3.trans (k4.trans k5))
   refine⟨_,rfl,bF ⟨ps2,fp4,rv++qH,es++es2,s2,_,rfl,cP.upd qCU Vo _,LL.upd hL4 hw4.2 _,hS4.mono k5,so4,j4,.more RR lt el TR,zC,hw4.2,Al.app (yu.mono fun _ _ z=>z.mono Fw) (hA4.mono fun _ _ z=>z.mono k5),by rw[dJ];lia⟩⟩
  ·exact⟨nt,fu,xX,rv,es,si,_,_,rfl,qB2,hL2,hSi.mono k2,Dl,ji,RR,hf z,hw2.1,hw2.2,yu.mono fun _ _ z=>z.mono k2,by lia⟩
 rintro σ' Hi aP
 refine aK fun G_ g_=>?_
 obtain⟨nt,fu,cg,rv,es,si,o6,o7,rfl,U6,hLi,hSi,Dl,ji,RR,dn,hwi,nwi,yu,lei⟩:=aP
 obtain⟨dx,fs,ho,n1,n2,n3⟩:=(jB C).obj hLi
 refine g_ ?_;clear g_
 refine⟨_,rfl,.inl ⟨rfl,_,aX.of hwi⟩,_,rfl,p,dx,fs,rfl,ho,n3,p,cg,c.lb,si.l,rfl,hLi,Dl.l,al.ok.NZ,fun qa xX H2 hL2 st2 nq nqf hqa=>?_⟩
 have k2:=cP.keep st2 hLi
 have hw2:=cP.apart st2 hwi nwi
 have newq:qa ≠ pw:=fun z=>by rw[z,hwi]at nq;cases nq
 have NZ:=al.ok.NZ
 have sil:=Dl.l
 refine⟨qa,rfl,⟨_,aX.of hqa⟩,?_⟩
 refine yS (K:=K) (a:=qa) (xs:=si.l.map V.int) (fun i acc H'=>aM H2 H'/\acc.length=i/\Al (bw H') acc (nT (si.l.take i))) ⟨aM.refl _,rfl,.nil⟩ (fun i acc H' z=>aX.of (z.1 _ _ hqa)) ?_ ?_
 ·rintro i x acc H' hx aP
  refine aK fun G_ g_=>?_
  obtain⟨s1,la,hB⟩:=aP
  refine g_ ?_;clear g_
  rw[qd]at hx
  cases hk:si.l[i]? with
  | none=>rw[hk]at hx;cases hx
  | some e=>
   rw[hk]at hx
   obtain rfl:=oN hx
   have hi:=(yZ.mp hk).1
   refine⟨_,rfl,zI (by show 2<=1000;decide),fun p5 vq=>⟨by rw[sizeLine_eq];lia,s1.trans (zF vq _),by rw[dJ,jj,la],?_⟩⟩
   unfold nT at hB ⊢
   rw[gB,hk,jH]
   exact (hB.mono fun _ _ z=>z.mono (aF.of (zF vq _))).snoc ⟨p5,rfl,zC⟩
 rintro acc H3 ⟨s3,la,hB⟩ pz hpz
 rw[cM,tW (bu _)]at hB
 rw[cM]at la
 have u4:=zF hpz (.lst acc)
 have i4:upd H3 pz (.lst acc) pz=some (.lst acc):=zC
 have s4:=s3.trans u4
 have w4:=s4 _ _ hw2.1
 generalize upd H3 pz (.lst acc)=H4 at u4 i4 s4 w4 ⊢
 have lAi:=yu.length
 have nzw:pw ≠ pz:=zM (s3 _ _ hw2.1) hpz
 refine⟨pw,pz,_,_,rfl,rfl,w4,i4,(by rw[sizeLine_eq];lia),?_⟩
 have k5:=aF.lst w4 (.lst (rv++acc))
 have hL5:LL C (upd H4 pw (.lst (rv++acc))) p xX c.lb si.l:=LL.upd (LL.same hL2 s4) hw2.2 _
 have Gs:cP H (upd H4 pw (.lst (rv++acc))) fp xX:=cP.upd (cP.trans (cP.trans U6 st2) (cP.same xX s4)) Vo _
 have r5:upd H4 pw (.lst (rv++acc)) pw=some (.lst (rv++acc)):=zC
 generalize upd H4 pw (.lst (rv++acc))=H5 at k5 hL5 Gs r5 ⊢
 refine⟨_,rfl,_,rfl,zI (by show 2<=1000;decide),fun tt htt=>?_⟩
 have u6:=zF htt (.tup [V.ref fu,V.ref pw])
 have k26:aF H2 (upd H5 tt (.tup [V.ref fu,V.ref pw])):=(aF.of s4).trans (k5.trans (aF.of u6))
 exact q tt fu pw (rv++acc) nt es si xX _ RR dn ji Dl (cP.trans Gs (cP.same xX u6)) zC (hSi.mono (k2.trans k26)) (u6 _ _ r5) Vo hw2.2 (Al.app (yu.mono fun _ _ z=>z.mono (k2.trans k26)) (hB.mono fun _ _ z=>z.mono ((aF.of u4).trans (k5.trans (aF.of u6))))) (by rw[dJ];lia)
end
inductive wF(H:Hp):Nat->V->V->Prop where
 | str {n:Nat} (z:Str):wF H n (.str z) (.str z)
 | int {n:Nat} (m:Int):wF H n (.int m) (.int m)
 | tup {n:Nat} {a b:Addr} {xs ys:List V}:H a=some (.tup xs)->H b=some (.tup ys)->xs.length=ys.length->xs.length<=2000000->(∀(i:Nat)(x y:V),xs[i]? = some x->ys[i]? = some y->wF H n x y)->wF H (n+1) (.ref a) (.ref b)
 | lst {n:Nat} {a b:Addr} {xs ys:List V}:H a=some (.lst xs)->H b=some (.lst ys)->xs.length=ys.length->xs.length<=2000000->(∀(i:Nat)(x y:V),xs[i]? = some x->ys[i]? = some y->wF H n x y)->wF H (n+1) (.ref a) (.ref b)
theorem wF.up{H:Hp}:∀ {n:Nat} {v u:V},wF H n v u->wF H (n+1) v u
 | _,_,_,.str z=>.str z
 | _,_,_,.int k=>.int k
 | _,_,_,.tup h1 h2 h3 h4 h5=>.tup h1 h2 h3 h4 fun i x y hx hy=>(h5 i x y hx hy).up
 | _,_,_,.lst h1 h2 h3 h4 h5=>.lst h1 h2 h3 h4 fun i x y hx hy=>(h5 i x y hx hy).up
def nH(v:V):Prop:=(∃ z,v = .str z) ∨ ∃ m,v = .int m
theorem wY(os:List Nat):∀ v∈aB os,nH v:=fun v hv=>by
 unfold aB at hv
 obtain⟨o,_,rfl⟩:=fO.mp hv
 exact .inr ⟨_,rfl⟩
theorem Hd(os:List Int):∀ v∈os.map V.int,nH v:=fun v hv=>by
 obtain⟨o,_,rfl⟩:=fO.mp hv
 exact .inr ⟨_,rfl⟩
theorem MN(e:En):∀ v∈e.row,nH v:=by
 have s:∀ z:Str,nH (.str z):=fun z=>.inl ⟨z,rfl⟩
 have i:∀ z:Int,nH (.int z):=fun z=>.inr ⟨z,rfl⟩
 have two:∀(a b:V),nH a->nH b->∀ v∈[a,b],nH v:=fun a b ha hb v hv=>by
  rcases dG.mp hv with rfl | hv
  ·exact ha
  ·rw[cJ.mp hv]
   exact hb
 cases e with
 | rc r=>
  cases r with
  | say w=>exact two _ _ (s _) (s _)
  | put b n=>
   intro v hv
   rcases dG.mp hv with rfl | hv
   ·exact s _
   ·exact two _ _ (i _) (i _) v hv
  | send e=>exact two _ _ (s _) (i _)
  | lost e=>exact two _ _ (s _) (i _)
 | inn k=>exact two _ _ (s _) (i _)
 | out k=>exact two _ _ (s _) (i _)
 | door k=>exact two _ _ (s _) (i _)
 | thr k=>exact two _ _ (s _) (i _)
 | take k=>exact two _ _ (s _) (i _)
theorem Uu(e:En):e.row.length<=3:=by
 cases e with
 | rc r=>cases r <;> (first | exact (by decide:2<=3) | exact bu 3)
 | _=>exact (by decide:2<=3)
theorem wC{H:Hp}{a b:Addr}{xs:List V}(ha:H a=some (.tup xs))(hb:H b=some (.tup xs))(l:xs.length<=2000000)(h:∀ v∈xs,nH v):wF H 1 (.ref a) (.ref b):=.tup ha hb rfl l fun i x y hx hy=>by
 obtain rfl:=oN (hx.symm.trans hy)
 rcases h x (List.mem_of_getElem? hx) with ⟨z,rfl⟩ | ⟨z,rfl⟩
 ·exact .str z
 ·exact .int z
theorem qAF{α:Type}{R:V->α->Prop}{H:Hp}{n:Nat}(hR:∀(x y:V)(r:α),R x r->R y r->wF H n x y){xs ys:List V}{rs:List α}(h1:Al R xs rs)(h2:Al R ys rs):xs.length=ys.length/\∀(i:Nat)(x y:V),xs[i]? = some x->ys[i]? = some y->wF H n x y:=by
 have l1:=h1.length
 have l2:=h2.length
 refine⟨by lia,fun i x y hx hy=>?_⟩
 have hi:i < xs.length:=(yZ.mp hx).1
 have e:=cj (show i < rs.length by lia)
 obtain⟨x',hx',r1⟩:=h1.get e
 obtain⟨y',hy',r2⟩:=h2.get e
 obtain rfl:=oN (hx.symm.trans hx')
 obtain rfl:=oN (hy.symm.trans hy')
 exact hR _ _ _ r1 r2
theorem WM{H:Hp}{a b:Addr}{xs ys:List V}{es:List En}(ha:H a=some (.lst xs))(hb:H b=some (.lst ys))(h1:Al (bw H) xs es)(h2:Al (bw H) ys es)(l:es.length<=2000000):wF H 2 (.ref a) (.ref b):=by
 obtain⟨hl,h⟩:=qAF (n:=1) (fun x y r hx hy=>by
  obtain⟨p,rfl,e1⟩:=hx
  obtain⟨q,rfl,e2⟩:=hy
  exact wC e1 e2 (by have:=Uu r;lia) (MN r)) h1 h2
 exact .lst ha hb hl (by rw[h1.length];exact l) h
theorem qAE{H:Hp}{p q:Addr}{s:S4}(h1:dI H p s)(h2:dI H q s)(lo:s.os.length<=40)(lb:s.bx.length<=40)(lk:s.ks.length<=40)(lr:∀ r∈s.ks,r.length<=40):wF H 3 (.ref p) (.ref q):=by
 obtain⟨po,pb,pk,kv,a1,a2,a3,a4,a5⟩:=h1
 obtain⟨qo,qb,qk,ur,b1,b2,b3,b4,b5⟩:=h2
 have up:∀ {v u:V},wF H 1 v u->wF H 2 v u:=fun h=>h.up
 have c1:wF H 2 (.ref po) (.ref qo):=up (wC a2 b2 (by rw[zU];lia) (wY _))
 have c2:wF H 2 (.ref pb) (.ref qb):=up (wC a3 b3 (by rw[cM];lia) (Hd _))
 have l1:=a5.length
 have l2:=b5.length
 have c3:wF H 2 (.ref pk) (.ref qk):=by
  refine .tup a4 b4 (by lia) (by lia) fun i x y hx hy=>?_
  have hi:i < kv.length:=(yZ.mp hx).1
  have e:=cj (show i < s.ks.length by lia)
  obtain⟨x',hx',r1,rfl,e1⟩:=a5.get e
  obtain⟨y',hy',r2,rfl,e2⟩:=b5.get e
  obtain rfl:=oN (hx.symm.trans hx')
  obtain rfl:=oN (hy.symm.trans hy')
  exact wC e1 e2 (by rw[zU];have:=lr _ (List.mem_of_getElem? e);lia) (wY _)
 refine .tup a1 b1 rfl (by show 3<=2000000;decide) fun i x y hx hy=>?_
 match i,hx,hy with
 | 0,hx,hy=>cases hx;cases hy;exact c1
 | 1,hx,hy=>cases hx;cases hy;exact c2
 | 2,hx,hy=>cases hx;cases hy;exact c3
theorem Ti{H:Hp}{t u p q a b:Addr}(ht:H t=some (.tup [.ref p,.ref a]))(hu:H u=some (.tup [.ref q,.ref b]))(h1:wF H 3 (.ref p) (.ref q))(h2:wF H 2 (.ref a) (.ref b)):wF H 4 (.ref t) (.ref u):=by
 refine .tup ht hu rfl (by show 2<=2000000;decide) fun i x y hx hy=>?_
 match i,hx,hy with
 | 0,hx,hy=>cases hx;cases hy;exact h1
 | 1,hx,hy=>
  cases hx
  cases hy
  exact h2.up
def qw(m:Nat):Sp:=fun vs H Q _ => ∃(v u:V)(k:Nat),vs=[v,u]/\k < m/\wF H k v u/\Q (.bl true) H
section
variable{P:Program}{w:World}{K:PySem.W.Frag}{mg:Str->Option Value}{base:Heap}
theorem ud:aN ["_law_found","_law_due","_law_k"] ["_law_found","_law_due"] (aG Ac):=⟨rfl,rfl,rfl,by decide +kernel,rfl,by decide +kernel,by decide +kernel⟩
theorem Qw{n:Nat}{f:Addr}{fd:FuncData}(F:cZ K "_law_same" "_law_same" Ac f fd)(tR:aL P w K mg base aq n f fd ["_law_found","_law_due"] (qw n))(iR:Binds K fd ["_law_found","_law_due"] [])(sX:KI K f)(iQ:mg "_law_same" = some (.ref f))
  (bI:mg "isinstance" = none) (aa:mg "tuple" = none) (xM:mg "str" = none) (oO:mg "int" = none) (uN:mg "bool" = none) (dH:mg "list" = none) (aY:mg "len" = none) (aZ:mg "range" = none):aL P w K mg base aq (n+1) f fd ["_law_found","_law_due"] (qw (n+1)):=by
 refine F.ok ud (fun vs H Q E h=>?_) (fun cdv A outer s H vs Q E hr h=>?_)
 ·refine aK fun G_ g_=>?_
  obtain⟨v,u,k,rfl,_⟩:=h
  refine g_ ?_;clear g_
  rfl
 refine aK fun G_ g_=>?_
 obtain⟨v,u,k,rfl,hk,hA,q⟩:=h
 refine g_ ?_;clear g_
 refine⟨_,(zE (yD (c7 (zS cU rfl bI PyProof.Rows.boot_isinstance (zA (pv 1) (zA (jE (v:=.ty "str") rfl xM PyProof.Rows.boot_str rfl) zD))))
  (zG (zO (rA (wj (zS cU rfl bI PyProof.Rows.boot_isinstance (zA (pv 0) (zA (jE (v:=.ty "str") rfl xM PyProof.Rows.boot_str rfl) zD))) (uK (gK yG (pv 0) (pv 1) (zR _)))))))
  zT)
  (zE (yD (c7 (zS cU rfl bI PyProof.Rows.boot_isinstance (zA (pv 1) (zA (jE (v:=.ty "int") rfl oO PyProof.Rows.boot_int rfl) zD))))
  (zG (zO (rA (wj (zS cU rfl bI PyProof.Rows.boot_isinstance (zA (pv 0) (zA (jE (v:=.ty "int") rfl oO PyProof.Rows.boot_int rfl) zD))) (wj (Hh (zS cU rfl bI PyProof.Rows.boot_isinstance (zA (pv 0) (zA (jE (v:=.ty "bool") rfl uN PyProof.Rows.boot_bool rfl) zD)))) (uK (gK yG (pv 0) (pv 1) (zR _))))))))
  zT)
  (zE (yD (bW (PW.pt (pw_and (c7 (zS cU rfl bI PyProof.Rows.boot_isinstance (zA (pv 1) (zA (jE (v:=.ty "tuple") rfl aa PyProof.Rows.boot_tuple rfl) zD)))) (yP (qz (c7 (zS cU rfl bI PyProof.Rows.boot_isinstance (zA (pv 0) (zA (jE (v:=.ty "tuple") rfl aa PyProof.Rows.boot_tuple rfl) zD)))))))))
  (zG (zO gU))
  zT)
  (zE (yD (bW (PW.pt (pw_and (c7 (zS cU rfl bI PyProof.Rows.boot_isinstance (zA (pv 1) (zA (jE (v:=.ty "list") rfl dH PyProof.Rows.boot_list rfl) zD)))) (yP (qz (c7 (zS cU rfl bI PyProof.Rows.boot_isinstance (zA (pv 0) (zA (jE (v:=.ty "list") rfl dH PyProof.Rows.boot_list rfl) zD)))))))))
  (zG (zO gU))
  zT)
  (zE (yD (zL Ez (zS zN rfl aY PySem.boot_len (zA (pv 0) zD)) (zS zN rfl aY PySem.boot_len (zA (pv 1) zD)) (zR _))
  (zG (zO gU))
  zT)
  (zZ (bN PassesOwn.never rfl (bV rfl aZ (zA (zS zN rfl aY PySem.boot_len (zA (pv 1) zD)) zD)) (yJ (i:=2) ud.nd rfl (Or.inl rfl))
  (zG (yD (qz (c7 (zJ tR hr rfl iQ sX iR .nil yE (zA (yB Rz (pv 0) (pv 2) (fun _ _=>rfl)) (zA (yB Rz (pv 1) (pv 2) (fun _ _=>rfl)) zD)))))
  (zG (zO gU))
  zT)))
  (zG (zO gU)))))))),?_⟩
 have eqF:∀ v:V,(!decide (v=v))=false:=fun v=>by simp
 have eqT:∀ v:V,decide (v=v)=true:=fun v=>by simp
 cases hA with
 | str z=>
  refine⟨_,rfl,_,"str",_,true,rfl,.str _,by rfl,_,rfl,J8 ?_⟩
  refine⟨fun v H'=>H'=H/\v = .bl true,⟨_,rfl,_,"str",_,true,rfl,.str _,by rfl,_,rfl,J8 ⟨_,rfl,_,rfl,rfl,rfl,?_⟩⟩,?_⟩
  ·rw[eqT]
  rintro v H1 ⟨rfl,rfl⟩
  exact q
 | int m=>
  refine⟨_,rfl,_,"str",_,false,rfl,.int _,by rfl,_,rfl,xQ ?_⟩
  refine⟨_,rfl,_,"int",_,true,rfl,.int _,by rfl,_,rfl,J8 ?_⟩
  refine⟨fun v H'=>H'=H/\v = .bl true,⟨_,rfl,_,"int",_,true,rfl,.int _,by rfl,_,rfl,J8 ⟨_,rfl,_,"bool",_,false,rfl,.int _,by rfl,_,rfl,_,rfl,J8 ⟨_,rfl,_,rfl,rfl,rfl,?_⟩⟩⟩,?_⟩
  ·rw[eqT]
  rintro v H1 ⟨rfl,rfl⟩
  exact q
 | @tup j a b xs ys ha hb hl h10 hin=>
  refine⟨_,rfl,_,"str",_,false,rfl,.tup hb,by rfl,_,rfl,xQ ?_⟩
  refine⟨_,rfl,_,"int",_,false,rfl,.tup hb,by rfl,_,rfl,xQ ?_⟩
  refine⟨fun c H'=>H'=H/\c=false,?_,?_⟩
  ·exact⟨_,rfl,_,"tuple",_,true,rfl,.tup hb,by rfl,_,rfl,J8 ⟨_,rfl,_,"tuple",_,true,rfl,.tup ha,by rfl,_,rfl,rfl,rfl⟩⟩
  rintro c H1 ⟨rfl,rfl⟩
  refine xQ ?_
  refine⟨fun c H'=>H'=H1/\c=false,?_,?_⟩
  ·exact⟨_,rfl,_,"list",_,false,rfl,.tup hb,by rfl,_,rfl,xQ ⟨rfl,rfl⟩⟩
  rintro c H2 ⟨rfl,rfl⟩
  refine xQ ?_
  refine⟨_,rfl,fW rfl (.inr (aH.of ha)) ⟨_,rfl,fW rfl (.inr (aH.of hb)) ⟨rfl,_,rfl,uQ (by rw[hl];exact eqF _) ?_⟩⟩⟩
  refine⟨fun σ' H'=>H'=H2/\∃ o2:Option V,σ'=[some (.ref a),some (.ref b),o2],?_,?_⟩
  ·refine⟨_,rfl,fW rfl (.inr (aH.of hb)) ⟨(ys.length:Int),rfl,by lia,by lia,?_⟩⟩
   refine bR (fun i σ' H'=>H'=H2/\∃ o2:Option V,σ'=[some (.ref a),some (.ref b),o2]) ⟨rfl,none,rfl⟩ ?_ ?_
   ·rintro i σ' H3 hi aP
    refine aK fun G_ g_=>?_
    obtain⟨rfl,o2,rfl⟩:=aP
    refine g_ ?_;clear g_
    have hi':i < ys.length:=by lia
    have hx:=cj (show i < xs.length by lia)
    have hy:=cj hi'
    have h1:=hin i _ _ hx hy
    have ax:oR xs (0+(i:Int))=some xs[i]:=by
     rw[Int.zero_add]
     exact yQ hx
    have ay:oR ys (0+(i:Int))=some ys[i]:=by
     rw[Int.zero_add]
     exact yQ hy
    exact⟨_,rfl,_,rfl,.inr (.inl (aD (aH.of ha) ax ⟨_,rfl,_,rfl,.inr (.inl (aD (aH.of hb) ay ⟨_,_,j,rfl,by lia,h1,_,rfl,uQ rfl ⟨rfl,_,rfl⟩⟩))⟩))⟩
   ·rintro σ' H3 aP
    refine aK fun G_ g_=>?_
    obtain⟨rfl,o2,rfl⟩:=aP
    refine g_ ?_;clear g_
    exact⟨rfl,o2,rfl⟩
  rintro σ' H3 aP
  refine aK fun G_ g_=>?_
  obtain⟨rfl,o2,rfl⟩:=aP
  refine g_ ?_;clear g_
  exact q
 | @lst j a b xs ys ha hb hl h10 hin=>
  refine⟨_,rfl,_,"str",_,false,rfl,.lst hb,by rfl,_,rfl,xQ ?_⟩
  refine⟨_,rfl,_,"int",_,false,rfl,.lst hb,by rfl,_,rfl,xQ ?_⟩
  refine⟨fun c H'=>H'=H/\c=false,?_,?_⟩
  ·exact⟨_,rfl,_,"tuple",_,false,rfl,.lst hb,by rfl,_,rfl,xQ ⟨rfl,rfl⟩⟩
  rintro c H1 ⟨rfl,rfl⟩
  refine xQ ?_
  refine⟨fun c H'=>H'=H1/\c=false,?_,?_⟩
  ·exact⟨_,rfl,_,"list",_,true,rfl,.lst hb,by rfl,_,rfl,J8 ⟨_,rfl,_,"list",_,true,rfl,.lst ha,by rfl,_,rfl,rfl,rfl⟩⟩
  rintro c H2 ⟨rfl,rfl⟩
  refine xQ ?_
  refine⟨_,rfl,fW rfl (.inl (aX.of ha)) ⟨_,rfl,fW rfl (.inl (aX.of hb)) ⟨rfl,_,rfl,uQ (by rw[hl];exact eqF _) ?_⟩⟩⟩
  refine⟨fun σ' H'=>H'=H2/\∃ o2:Option V,σ'=[some (.ref a),some (.ref b),o2],?_,?_⟩
  ·refine⟨_,rfl,fW rfl (.inl (aX.of hb)) ⟨(ys.length:Int),rfl,by lia,by lia,?_⟩⟩
   refine bR (fun i σ' H'=>H'=H2/\∃ o2:Option V,σ'=[some (.ref a),some (.ref b),o2]) ⟨rfl,none,rfl⟩ ?_ ?_
   ·rintro i σ' H3 hi aP
    refine aK fun G_ g_=>?_
    obtain⟨rfl,o2,rfl⟩:=aP
    refine g_ ?_;clear g_
    have hi':i < ys.length:=by lia
    have hx:=cj (show i < xs.length by lia)
    have hy:=cj hi'
    have h1:=hin i _ _ hx hy
    have ax:oR xs (0+(i:Int))=some xs[i]:=by
     rw[Int.zero_add]
     exact yQ hx
    have ay:oR ys (0+(i:Int))=some ys[i]:=by
     rw[Int.zero_add]
     exact yQ hy
    exact⟨_,rfl,_,rfl,(.inl (cz (aX.of ha) ax ⟨_,rfl,_,rfl,(.inl (cz (aX.of hb) ay ⟨_,_,j,rfl,by lia,h1,_,rfl,uQ rfl ⟨rfl,_,rfl⟩⟩))⟩))⟩
   ·rintro σ' H3 aP
    refine aK fun G_ g_=>?_
    obtain⟨rfl,o2,rfl⟩:=aP
    refine g_ ?_;clear g_
    exact⟨rfl,o2,rfl⟩
  rintro σ' H3 aP
  refine aK fun G_ g_=>?_
  obtain⟨rfl,o2,rfl⟩:=aP
  refine g_ ?_;clear g_
  exact q
theorem IV{f:Addr}{fd:FuncData}:aL P w K mg base aq 0 f fd ["_law_found","_law_due"] (qw 0):=by
 have no:∀ vs H Q E,¬ qw 0 vs H Q E:=fun vs H Q E h=>by
  refine aK fun G_ g_=>?_
  obtain⟨v,u,k,_,h2,_⟩:=h
  refine g_ ?_;clear g_
  lia
 exact⟨fun vs H Q E h=>absurd h (no vs H Q E),fun A outer s H args us vs Q E _ _ _ _ h=>absurd h (no vs H Q E)⟩
theorem Bb{f:Addr}{fd:FuncData}(F:cZ K "_law_same" "_law_same" Ac f fd)(iR:Binds K fd ["_law_found","_law_due"] [])(iQ:mg "_law_same" = some (.ref f))(bI:mg "isinstance" = none)(aa:mg "tuple" = none)(xM:mg "str" = none)(oO:mg "int" = none)(uN:mg "bool" = none)(dH:mg "list" = none)(aY:mg "len" = none)(aZ:mg "range" = none):∀ n:Nat,aL P w K mg base aq n f fd ["_law_found","_law_due"] (qw n)
 | 0=>IV
 | n+1=>Qw F (Bb F iR iQ bI aa xM oO uN dH aY aZ n) iR F.kp iQ bI aa xM oO uN dH aY aZ
end
end Ru
namespace mO
open PySem L2 mR oU tZ
def jO(n:Nat):Sp:=fun vs H Q _ => ∃(vg:V)(o b:Addr)(g:Gd)(op bx:List Int),vs=[vg,.ref o,.ref b]/\jn H vg g/\H o=some (.tup (op.map V.int))/\H b=some (.tup (bx.map V.int))/\g.ok bx.length/\g.ht<=n/\Q (.bl (g.holds op bx)) H
theorem XX{bx:List Int}{b:Int}(h0:0<=b)(h1:b < (bx.length:Int)):oR (bx.map V.int) b=some (.int (at0 bx b)):=by
 have hl:b.toNat < bx.length:=by lia
 have e:((b.toNat:Nat):Int)=b:=by lia
 unfold at0
 rw[<-e]
 refine (yQ ?_)
 rw[qd,cj hl,Du,jl,cj hl]
 rfl
section
variable{P:Program}{w:World}{K:PySem.W.Frag}{mg:Str->Option Value}{base:Heap}
theorem mj:aN ["_law_guard_here","_law_opening","_law_boxes","_law_one","_law_other"] ["_law_guard_here","_law_opening","_law_boxes"] (aG jJ):=⟨rfl,rfl,rfl,by decide +kernel,rfl,by decide +kernel,by decide +kernel⟩
theorem Ml{n:Nat}{f:Addr}{fd:FuncData}(F:cZ K "_law_holds" "_law_holds" jJ f fd)(tU:aL P w K mg base aq n f fd ["_law_guard_here","_law_opening","_law_boxes"] (jO n))(gQ:Binds K fd ["_law_guard_here","_law_opening","_law_boxes"] [])(sY:KI K f)(gO:mg "_law_holds" = some (.ref f)) :
  aL P w K mg base aq (n+1) f fd ["_law_guard_here","_law_opening","_law_boxes"] (jO (n+1)):=by
 refine F.ok mj (fun vs H Q E h=>?_) (fun cdv A outer s H vs Q E hr h=>?_)
 ·refine aK fun G_ g_=>?_
  obtain⟨vg,o,b,g,op,bx,rfl,_⟩:=h
  refine g_ ?_;clear g_
  rfl
 refine aK fun G_ g_=>?_
 obtain⟨vg,o,b,g,op,bx,rfl,hg,ho,hb,ok,ht,q⟩:=h
 refine g_ ?_;clear g_
 refine⟨_,(zE (yD (zL yG (yB zH (pv 0) zB (fun _ _=>rfl)) zP (zR _))
  (zG (zO (gK yG (yB zH (pv 2) (yB zH (pv 0) zB (fun _ _=>rfl)) (fun _ _=>rfl)) (yB zH (pv 0) zB (fun _ _=>rfl)) (zR _))))
  zT)
  (zE (yD (zL yG (yB zH (pv 0) zB (fun _ _=>rfl)) zP (zR _))
  (zG (zO (gK lQ (yB zH (pv 2) (yB zH (pv 0) zB (fun _ _=>rfl)) (fun _ _=>rfl)) (yB zH (pv 0) zB (fun _ _=>rfl)) (zR _))))
  zT)
  (zE (yD (zL yG (yB zH (pv 0) zB (fun _ _=>rfl)) zP (zR _))
  (zG (zO (gK jL (yB zH (pv 0) zB (fun _ _=>rfl)) (pv 1) rfl)))
  zT)
  (zE (yD (zL yG (yB zH (pv 0) zB (fun _ _=>rfl)) zP (zR _))
  (zG (zO gU))
  zT)
  (zE (zK (i:=3) mj.nd rfl (Or.inl rfl) (zJ tU hr rfl gO sY gQ .nil yE (zA (yB zH (pv 0) zB (fun _ _=>rfl)) (zA (pv 1) (zA (pv 2) zD)))))
  (zE (yD (zL yG (yB zH (pv 0) zB (fun _ _=>rfl)) zP (zR _))
  (zG (zO (Hh (pv 3))))
  zT)
  (zE (zK (i:=4) mj.nd rfl (Or.inl rfl) (zJ tU hr rfl gO sY gQ .nil yE (zA (yB zH (pv 0) zB (fun _ _=>rfl)) (zA (pv 1) (zA (pv 2) zD)))))
  (zE (yD (zL yG (yB zH (pv 0) zB (fun _ _=>rfl)) zP (zR _))
  (zG (zO (rA (wj (pv 3) (uK (pv 4))))))
  zT)
  (zG (zO (rA (Wt (pv 3) (uK (pv 4)))))))))))))),?_⟩
 cases hg with
 | is e=>
  refine⟨_,rfl,_,_,_,_,rfl,rfl,aH.of e,rfl,rfl,_,rfl,vG (by decide +kernel) ?_⟩
  exact⟨_,rfl,_,rfl,_,_,_,_,rfl,rfl,aH.of e,rfl,aD (aH.of hb) (XX ok.1 ok.2) ⟨_,rfl,_,_,_,_,rfl,rfl,aH.of e,rfl,rfl,q⟩⟩
 | under e=>
  refine⟨_,rfl,_,_,_,_,rfl,rfl,aH.of e,rfl,rfl,_,rfl,yN (by decide +kernel) ?_⟩
  refine⟨_,rfl,_,_,_,_,rfl,rfl,aH.of e,rfl,rfl,_,rfl,vG (by decide +kernel) ?_⟩
  exact⟨_,rfl,_,rfl,_,_,_,_,rfl,rfl,aH.of e,rfl,aD (aH.of hb) (XX ok.1 ok.2) ⟨_,rfl,_,_,_,_,rfl,rfl,aH.of e,rfl,bF q⟩⟩
 | inn e=>
  refine⟨_,rfl,_,_,_,_,rfl,rfl,aH.of e,rfl,rfl,_,rfl,yN (by decide +kernel) ?_⟩
  refine⟨_,rfl,_,_,_,_,rfl,rfl,aH.of e,rfl,rfl,_,rfl,yN (by decide +kernel) ?_⟩
  refine⟨_,rfl,_,_,_,_,rfl,rfl,aH.of e,rfl,rfl,_,rfl,vG (by decide +kernel) ?_⟩
  exact⟨_,rfl,_,_,_,_,rfl,rfl,aH.of e,rfl,_,rfl,fW rfl (.inr (aH.of ho)) ⟨rfl,lZ op,q⟩⟩
 | yes e=>
  refine⟨_,rfl,_,_,_,_,rfl,rfl,aH.of e,rfl,rfl,_,rfl,yN (by decide +kernel) ?_⟩
  refine⟨_,rfl,_,_,_,_,rfl,rfl,aH.of e,rfl,rfl,_,rfl,yN (by decide +kernel) ?_⟩
  refine⟨_,rfl,_,_,_,_,rfl,rfl,aH.of e,rfl,rfl,_,rfl,yN (by decide +kernel) ?_⟩
  exact⟨_,rfl,_,_,_,_,rfl,rfl,aH.of e,rfl,rfl,_,rfl,vG (by decide +kernel) q⟩
 | neg e hg'=>
  refine⟨_,rfl,_,_,_,_,rfl,rfl,aH.of e,rfl,rfl,_,rfl,yN (by decide +kernel) ?_⟩
  refine⟨_,rfl,_,_,_,_,rfl,rfl,aH.of e,rfl,rfl,_,rfl,yN (by decide +kernel) ?_⟩
  refine⟨_,rfl,_,_,_,_,rfl,rfl,aH.of e,rfl,rfl,_,rfl,yN (by decide +kernel) ?_⟩
  refine⟨_,rfl,_,_,_,_,rfl,rfl,aH.of e,rfl,rfl,_,rfl,yN (by decide +kernel) ?_⟩
  refine⟨_,rfl,_,_,_,_,rfl,rfl,aH.of e,rfl,_,rfl,_,rfl,_,o,b,_,op,bx,rfl,hg',ho,hb,ok,Nat.le_of_succ_le_succ ht,?_⟩
  exact⟨_,rfl,_,_,_,_,rfl,rfl,aH.of e,rfl,rfl,_,rfl,vG (by decide +kernel) ⟨_,rfl,_,rfl,q⟩⟩
 | @both a v u g h e hg hh=>
  have h1:1+max g.ht h.ht<=n+1:=ht
  refine⟨_,rfl,_,_,_,_,rfl,rfl,aH.of e,rfl,rfl,_,rfl,yN (by decide +kernel) ?_⟩
  refine⟨_,rfl,_,_,_,_,rfl,rfl,aH.of e,rfl,rfl,_,rfl,yN (by decide +kernel) ?_⟩
  refine⟨_,rfl,_,_,_,_,rfl,rfl,aH.of e,rfl,rfl,_,rfl,yN (by decide +kernel) ?_⟩
  refine⟨_,rfl,_,_,_,_,rfl,rfl,aH.of e,rfl,rfl,_,rfl,yN (by decide +kernel) ?_⟩
  refine⟨_,rfl,_,_,_,_,rfl,rfl,aH.of e,rfl,_,rfl,_,rfl,_,o,b,g,op,bx,rfl,hg,ho,hb,ok.1,by lia,?_⟩
  refine⟨_,rfl,_,_,_,_,rfl,rfl,aH.of e,rfl,rfl,_,rfl,yN (by decide +kernel) ?_⟩
  refine⟨_,rfl,_,_,_,_,rfl,rfl,aH.of e,rfl,_,rfl,_,rfl,_,o,b,h,op,bx,rfl,hh,ho,hb,ok.2,by lia,?_⟩
  refine⟨_,rfl,_,_,_,_,rfl,rfl,aH.of e,rfl,rfl,_,rfl,vG (by decide +kernel) ?_⟩
  have q':Q (.bl (g.holds op bx && h.holds op bx)) H:=q
  refine⟨fun v H'=>v = .bl (g.holds op bx && h.holds op bx)/\H'=H,⟨_,rfl,_,rfl,oZ (fun c=>⟨_,rfl,?_,rfl⟩) (fun c=>⟨?_,rfl⟩)⟩,fun v H' ⟨e1,e2⟩=>by subst e1 e2;exact q'⟩
  ·rw[c]
   rfl
  ·rw[Bool.eq_false_iff.mpr c]
   rfl
 | @either a v u g h e hg hh=>
  have h1:1+max g.ht h.ht<=n+1:=ht
  refine⟨_,rfl,_,_,_,_,rfl,rfl,aH.of e,rfl,rfl,_,rfl,yN (by decide +kernel) ?_⟩
  refine⟨_,rfl,_,_,_,_,rfl,rfl,aH.of e,rfl,rfl,_,rfl,yN (by decide +kernel) ?_⟩
  refine⟨_,rfl,_,_,_,_,rfl,rfl,aH.of e,rfl,rfl,_,rfl,yN (by decide +kernel) ?_⟩
  refine⟨_,rfl,_,_,_,_,rfl,rfl,aH.of e,rfl,rfl,_,rfl,yN (by decide +kernel) ?_⟩
  refine⟨_,rfl,_,_,_,_,rfl,rfl,aH.of e,rfl,_,rfl,_,rfl,_,o,b,g,op,bx,rfl,hg,ho,hb,ok.1,by lia,?_⟩
  refine⟨_,rfl,_,_,_,_,rfl,rfl,aH.of e,rfl,rfl,_,rfl,yN (by decide +kernel) ?_⟩
  refine⟨_,rfl,_,_,_,_,rfl,rfl,aH.of e,rfl,_,rfl,_,rfl,_,o,b,h,op,bx,rfl,hh,ho,hb,ok.2,by lia,?_⟩
  refine⟨_,rfl,_,_,_,_,rfl,rfl,aH.of e,rfl,rfl,_,rfl,yN (by decide +kernel) ?_⟩
  have q':Q (.bl (g.holds op bx || h.holds op bx)) H:=q
  refine⟨fun v H'=>v = .bl (g.holds op bx || h.holds op bx)/\H'=H,⟨_,rfl,_,rfl,oZ (fun c=>⟨?_,rfl⟩) (fun c=>⟨_,rfl,?_,rfl⟩)⟩,fun v H' ⟨e1,e2⟩=>by subst e1 e2;exact q'⟩
  ·rw[c]
   rfl
  ·rw[Bool.eq_false_iff.mpr c]
   rfl
theorem FW{f:Addr}{fd:FuncData}:aL P w K mg base aq 0 f fd ["_law_guard_here","_law_opening","_law_boxes"] (jO 0):=by
 have no:∀ vs H Q E,¬ jO 0 vs H Q E:=fun vs H Q E h=>by
  refine aK fun G_ g_=>?_
  obtain⟨vg,o,b,g,op,bx,rfl,hg,ho,hb,ok,ht,_⟩:=h
  refine g_ ?_;clear g_
  have:=g.S6
  lia
 exact⟨fun vs H Q E h=>absurd h (no vs H Q E),fun A outer s H args us vs Q E _ _ _ _ h=>absurd h (no vs H Q E)⟩
theorem xx{f:Addr}{fd:FuncData}(F:cZ K "_law_holds" "_law_holds" jJ f fd)(gQ:Binds K fd ["_law_guard_here","_law_opening","_law_boxes"] [])(gO:mg "_law_holds" = some (.ref f)):∀ n:Nat,aL P w K mg base aq n f fd ["_law_guard_here","_law_opening","_law_boxes"] (jO n)
 | 0=>FW
 | n+1=>Ml F (xx F gQ gO n) gQ F.kp gO
def HJ(n:Nat):Sp:=fun vs H Q _ => ∃(pc rE pd o b:Addr)(op bx:List Int)(ds:List Dg)(dv:List V)(x0 x1 x2 x3 x4 x5 x:V)(r ev:Int),vs=[.ref pc,.ref rE,.int r,.int ev]/\H pc=some (.tup [x0,x1,x2,x3,x4,x5,.ref pd])/\H pd=some (.tup dv)/\Al (Dj H) dv ds/\H rE=some (.tup [.ref o,.ref b,x])/\H o=some (.tup (op.map V.int))/\H b=some (.tup (bx.map V.int))/\(∀ d∈ds,d.g.ok bx.length/\d.g.ht<=n)/\ds.length<=1000/\Q (oV (bj op bx ds r ev)) H
theorem Kv{op bx:List Int}{r ev:Int}:∀ {xs:List Dg} {b k:Nat},fst op bx r ev xs b=some k->∀ ys:List Dg,fst op bx r ev (xs++ys) b=some k
 | [],b,k,h,_=>by cases h
 | x :: xs,b,k,h,ys=>by
  have h:(if hit op bx r ev x=true then some b else fst op bx r ev xs (b+1))=some k:=h
  show (if hit op bx r ev x=true then some b else fst op bx r ev (xs++ys) (b+1))=some k
  by_cases c:hit op bx r ev x=true
  ·rw[if_pos c]at h ⊢
   exact h
  ·rw[if_neg c]at h ⊢
   exact Kv h ys
theorem kW:aN ["_law_chart_here","_law_stand_here","_law_room","_law_event","_law_k","_law_door"] ["_law_chart_here","_law_stand_here","_law_room","_law_event"] (aG nC):=⟨rfl,rfl,rfl,by decide +kernel,rfl,by decide +kernel,by decide +kernel⟩
theorem Hu{n m:Nat}{f gh:Addr}{fd dh:FuncData}(F:cZ K "_law_answer" "_law_answer" nC f fd)(tU:aL P w K mg base aq m gh dh ["_law_guard_here","_law_opening","_law_boxes"] (jO n))(gQ:Binds K dh ["_law_guard_here","_law_opening","_law_boxes"] [])(sY:KI K gh)(gO:mg "_law_holds" = some (.ref gh))
  (aY:mg "len" = none) (aZ:mg "range" = none):aL P w K mg base aq (m+1) f fd ["_law_chart_here","_law_stand_here","_law_room","_law_event"] (HJ n):=by
 refine F.ok kW (fun vs H Q E h=>?_) (fun cdv A outer s H vs Q E hr h=>?_)
 ·refine aK fun G_ g_=>?_
  obtain⟨pc,rE,pd,o,b,op,bx,ds,dv,x0,x1,x2,x3,x4,x5,x,r,ev,rfl,_⟩:=h
  refine g_ ?_;clear g_
  rfl
 refine aK fun G_ g_=>?_
 obtain⟨pc,rE,pd,o,b,op,bx,ds,dv,x0,x1,x2,x3,x4,x5,x,r,ev,rfl,rF,hpd,hds,hst,ho,hb,hok,qBM,q⟩:=h
 refine g_ ?_;clear g_
 refine⟨_,(zE (yD (zL du (pv 2) (yB zH (pv 1) zB (fun _ _=>rfl)) rfl)
  (zG (zO fV))
  zT)
  (zZ (bN PassesOwn.never rfl (bV rfl aZ (zA (zS zN rfl aY PySem.boot_len (zA (yB zH (pv 0) zB (fun _ _=>rfl)) zD)) zD)) (yJ (i:=4) kW.nd rfl (Or.inl rfl))
  (zE (zK (i:=5) kW.nd rfl (Or.inl rfl) (yB zH (yB zH (pv 0) zB (fun _ _=>rfl)) (pv 4) (fun _ _=>rfl)))
  (zG (yD (bW (PW.pt (pw_and (zL yG (yB zH (pv 5) zB (fun _ _=>rfl)) (pv 2) (zR _)) (pw_and (zL yG (yB zH (pv 5) zB (fun _ _=>rfl)) (pv 3) (zR _)) (yP (c7 (zJ tU hr rfl gO sY gQ .nil yE (zA (yB zH (pv 5) zB (fun _ _=>rfl)) (zA (yB zH (pv 1) zB (fun _ _=>rfl)) (zA (yB zH (pv 1) zB (fun _ _=>rfl)) zD))))))))))
  (zG (zO (pv 4)))
  zT))))
  (zG (zO fV)))),?_⟩
 have ldv:=hds.length
 refine⟨_,rfl,_,rfl,aD (aH.of hst) rfl (fW rfl (.inr (aH.of ho)) ⟨rfl,lZ op,_,rfl,cW (fun c=>?_) (fun c=>?_)⟩)⟩
 ·have c:(!inV (.int r) (op.map V.int))=true:=c
  unfold bj at q
  rw[if_neg (fun z=>by rw[z]at c;cases c)]at q
  exact q
 have c:(!inV (.int r) (op.map V.int))=false:=c
 rw[Bool.not_eq_false']at c
 unfold bj at q
 rw[if_pos c]at q
 refine⟨fun σ' H'=>H'=H/\fst op bx r ev ds 0=none,?_,?_⟩
 ·refine⟨_,rfl,aD (aH.of rF) rfl (fW rfl (.inr (aH.of hpd)) ⟨_,rfl,by lia,by lia,?_⟩)⟩
  refine bR (fun i σ' H'=>H'=H/\fst op bx r ev (ds.take i) 0=none/\∃ o4 o5:Option V,σ'=[some (.ref pc),some (.ref rE),some (.int r),some (.int ev),o4,o5]) ⟨rfl,rfl,_,_,rfl⟩ ?_ ?_
  ·rintro i σ' H' hi aP
   refine aK fun G_ g_=>?_
   obtain⟨rfl,hn,o4,o5,rfl⟩:=aP
   have hk:i < ds.length:=by
    simp at hi
    lia
   have ek:=cj hk
   obtain⟨v,hv,ad,gv,y3,y4,y5,rfl,had,hgd⟩:=hds.get ek
   refine g_ ?_;clear g_
   have Yx:=hok _ (fB hk)
   generalize hdd:ds[i]=d at had hgd Yx ek
   have et:ds.take (i+1)=ds.take i++[d]:=by
    rw[gB,ek]
    rfl
   have hat:oR dv (0+(i:Int))=some (.ref ad):=by
    rw[Int.zero_add]
    exact yQ hv
   refine⟨_,rfl,aD (aH.of rF) rfl ⟨_,rfl,aD (aH.of hpd) hat ?_⟩⟩
   refine⟨fun c' H2=>H2=H'/\c'=hit op bx r ev d,?_,?_⟩
   ·unfold hit
    refine⟨_,rfl,aD (aH.of had) rfl ⟨_,rfl,rfl,_,rfl,cW (fun c1=>?_) (fun c1=>⟨rfl,?_⟩)⟩⟩
    ·have c1:decide (V.int d.room=V.int r)=true:=c1
     rw[c1,Bool.true_and]
     refine⟨_,rfl,aD (aH.of had) rfl ⟨_,rfl,rfl,_,rfl,cW (fun c2=>?_) (fun c2=>⟨rfl,?_⟩)⟩⟩
     ·have c2:decide (V.int d.ev=V.int ev)=true:=c2
      rw[c2,Bool.true_and]
      exact⟨_,rfl,aD (aH.of had) rfl ⟨_,rfl,aD (aH.of hst) rfl ⟨_,rfl,aD (aH.of hst) rfl ⟨gv,o,b,d.g,op,bx,rfl,hgd,ho,hb,Yx.1,Yx.2,_,rfl,rfl,rfl⟩⟩⟩⟩
     ·have c2:decide (V.int d.ev=V.int ev)=false:=c2
      rw[c2]
      rfl
    ·have c1:decide (V.int d.room=V.int r)=false:=c1
     rw[c1]
     rfl
   rintro c' H2 ⟨rfl,hc⟩
   have lt:(ds.take i).length=i:=by
    rw[dN]
    lia
   refine cW (fun c1=>?_) (fun c1=>?_)
   ·refine⟨_,rfl,?_⟩
    have e:fst op bx r ev ds 0=some i:=by
     have ed:ds=ds.take (i+1)++ds.drop (i+1):=(List.take_append_drop _ _).symm
     have e1:fst op bx r ev (ds.take (i+1)) 0=some i:=by
      rw[et,tG,hn,lt,Nat.zero_add]
      show (if hit op bx r ev d=true then some i else none)=some i
      rw[if_pos (by rw[<-hc];exact c1)]
     rw[ed]
     exact Kv e1 _
    rw[e]at q
    rw[Int.zero_add]
    exact q
   ·refine⟨rfl,?_,_,_,rfl⟩
    rw[et,tG,hn]
    show (if hit op bx r ev d=true then some (0+(ds.take i).length) else none)=none
    rw[if_neg (by rw[<-hc,c1];decide)]
  ·rintro σ' H' aP
   refine aK fun G_ g_=>?_
   obtain⟨rfl,hn,_⟩:=aP
   refine g_ ?_;clear g_
   refine⟨rfl,?_⟩
   rw[List.take_of_length_le (by simp;lia)]at hn
   exact hn
 rintro σ' H' ⟨rfl,hn⟩
 rw[hn]at q
 exact q
end
end mO
namespace Ru
open PySem L2 mR oU tZ Ds yd jA
open mO (Al Dg Dj ie gA bh bj inter lO oV pB HJ gG qQ)
theorem Qn(inn:Bool)(dp:List Int)(room:Nat)(vY:List Nat):decide (V.int ((aB (vY.filter fun o=>if inn=true then Tr.aJ dp o room else Tr.aJ dp room o)).length:Int)=V.int 0) = !lO inn dp room vY:=by
 rw[zU]
 unfold lO
 cases h:vY.any fun o=>if inn=true then Tr.aJ dp o room else Tr.aJ dp room o with
 | true=>
  obtain⟨o,ho,e⟩:=List.any_eq_true.mp h
  have hp:=List.length_pos_of_mem (show o∈vY.filter (fun o=>if inn=true then Tr.aJ dp o room else Tr.aJ dp room o) from dq.mpr ⟨ho,e⟩)
  exact decide_eq_false fun z=>by
   injection z with z
   lia
 | false=>
  have e:(vY.filter fun o=>if inn=true then Tr.aJ dp o room else Tr.aJ dp room o)=[]:=List.filter_eq_nil_iff.mpr fun o ho z=>by
   rw[List.any_eq_true.mpr ⟨o,ho,z⟩]at h
   cases h
  rw[e]
  rfl
section
variable{P:Program}{w:World}{K:PySem.W.Frag}{mg:Str->Option Value}{base:Heap}
theorem dF:aN ["_law_chart_here","_law_stand_here","_law_event","_law_room","_law_answers","_law_doors_here","_law_ahead"] ["_law_chart_here","_law_stand_here","_law_event"] (aG fU):=⟨rfl,rfl,rfl,by decide +kernel,rfl,by decide +kernel,by decide +kernel⟩
theorem Ht{n m:Nat}{f ga gl:Addr}{fd da dl:FuncData}(F:cZ K "_law_chosen" "_law_chosen" fU f fd)(Be:aL P w K mg base aq m ga da ["_law_chart_here","_law_stand_here","_law_room","_law_event"] (HJ n))(BL:Binds K da ["_law_chart_here","_law_stand_here","_law_room","_law_event"] [])(Aw:KI K ga)(Ak:mg "_law_answer" = some (.ref ga))
  (eV:aL P w K mg base aq m gl dl ["_law_rooms_here","_law_one","_law_other"] gG) (eU:Binds K dl ["_law_rooms_here","_law_one","_law_other"] []) (eG:KI K gl) (eF:mg "_law_lies" = some (.ref gl)) (aY:mg "len" = none) :
  aL P w K mg base aq (m+1) f fd ["_law_chart_here","_law_stand_here","_law_event"] (pB n):=by
 refine F.ok dF (fun vs H Q E h=>?_) (fun cdv A outer s H vs Q E hr h=>?_)
 ·refine aK fun G_ g_=>?_
  obtain⟨pc,rE,t,pd,o,b,od,os,bx,rs,ds,dv,x1,x2,x3,x4,x,ev,rfl,_⟩:=h
  refine g_ ?_;clear g_
  rfl
 refine aK fun G_ g_=>?_
 obtain⟨pc,rE,t,pd,o,b,od,os,bx,rs,ds,dv,x1,x2,x3,x4,x,ev,rfl,rF,hR,good,lg,hpd,hds,hst,ho,hos,inc,hb,hok,l63,q⟩:=h
 refine g_ ?_;clear g_
 refine⟨_,(zE (iJ (i:=4) (bY:=[(0,"_law_chart_here"),(1,"_law_stand_here"),(2,"_law_event")]) rfl dF.nd rfl (Or.inl rfl) (show bQ (aG fU) ["_law_chart_here","_law_stand_here","_law_event","_law_room","_law_answers","_law_doors_here","_law_ahead"] _ _ _ from ⟨rfl,rfl,by decide +kernel,by decide +kernel,by decide +kernel,by decide +kernel,by decide +kernel⟩) (nJ (yB zH (pv 1) zB (fun _ _=>rfl))) (fun _ _ _ _ _ _=>bU (zL CG (zJ Be hr rfl Ak Aw BL .nil yE (zA (pv 1) (zA (pv 2) (zA (pv 0) (zA (pv 3) zD))))) fV (zR _))) (fun _ _ _ _ _ _=>(pv 0)))
  (zE (zK (i:=5) dF.nd rfl (Or.inl rfl) (yK zD))
  (zZ (bN PassesOwn.never rfl (yM (pv 4)) (yJ (i:=3) dF.nd rfl (Or.inr rfl))
  (zZ (yD (zL yG (yB zH (pv 0) zB (fun _ _=>rfl)) zP (zR _))
  (zG (iJ (i:=6) (bY:=[(3,"_law_room"),(0,"_law_chart_here")]) rfl dF.nd rfl (Or.inl rfl) (show bQ (aG fU) ["_law_chart_here","_law_stand_here","_law_event","_law_room","_law_answers","_law_doors_here","_law_ahead"] _ _ _ from ⟨rfl,rfl,by decide +kernel,by decide +kernel,by decide +kernel,by decide +kernel,by decide +kernel⟩) (yM (pv 4)) (fun _ _ _ _ _ _=>bU (c7 (zJ eV hr rfl eF eG eU .nil yE (zA (yB (r:=fj K) zH (pv 2) zB (fun _ _=>rfl)) (zA (pv 0) (zA (pv 1) zD)))))) (fun _ _ _ _ _ _=>(pv 0))))
  (zG (iJ (i:=6) (bY:=[(3,"_law_room"),(0,"_law_chart_here")]) rfl dF.nd rfl (Or.inl rfl) (show bQ (aG fU) ["_law_chart_here","_law_stand_here","_law_event","_law_room","_law_answers","_law_doors_here","_law_ahead"] _ _ _ from ⟨rfl,rfl,by decide +kernel,by decide +kernel,by decide +kernel,by decide +kernel,by decide +kernel⟩) (yM (pv 4)) (fun _ _ _ _ _ _=>bU (c7 (zJ eV hr rfl eF eG eU .nil yE (zA (yB (r:=fj K) zH (pv 2) zB (fun _ _=>rfl)) (zA (pv 1) (zA (pv 0) zD)))))) (fun _ _ _ _ _ _=>(pv 0)))))
  (zG (yD (zL yG (zS zN rfl aY PySem.boot_len (zA (pv 6) zD)) zB (zR _))
  (zG (yI (bz PySem.F.plainAttrs_list PySem.F.slot_list_append PySem.F.type_list_append yH (pv 5) (zA (zJ Be hr rfl Ak Aw BL .nil yE (zA (pv 0) (zA (pv 1) (zA (pv 3) (zA (pv 2) zD))))) zD))))
  zT))))
  (zG (zO (pv 5)))))),?_⟩
 have qDE:os.length<=40:=Nat.le_trans (Tr.cL _ _ (Tr.bK inc) hos) lg
 refine⟨_,rfl,aD (aH.of hst) rfl ⟨o,rfl,⟨_,aH.of ho⟩,?_⟩⟩
 refine mD (K:=K) (a:=o) (xs:=aB os) (fun i acc H'=>H'=H/\acc=aB ((os.take i).filter fun r:Nat=>(bj (inter os) bx ds (r:Int) ev).isSome)) ⟨rfl,rfl⟩ (fun i acc H' z=>by rw[z.1];exact aH.of ho) ?_ ?_
 ·rintro i y acc H' hy ⟨rfl,rfl⟩
  obtain⟨hi,rfl⟩:=yR hy
  have hk:=cj hi
  generalize os[i]=r at hk
  refine⟨_,rfl,_,rfl,_,rfl,_,rfl,pc,rE,pd,o,b,inter os,bx,ds,dv,_,_,_,_,_,_,_,_,ev,rfl,rF,hpd,hds,hst,(by rw[qQ];exact ho),hb,hok,by lia,?_⟩
  have ll:((os.take i).filter fun r:Nat=>(bj (inter os) bx ds (r:Int) ev).isSome).length<=40:=by
   have:=jh (fun r:Nat=>(bj (inter os) bx ds (r:Int) ev).isSome) (os.take i)
   rw[dN]at this
   lia
  cases ha:bj (inter os) bx ds (r:Int) ev with
  | none=>
   refine⟨rfl,_,rfl,uQ (by first | rfl | simp [oV]) ⟨rfl,?_⟩⟩
   rw[bH hk,ha]
   exact (congrArg aB (dM _)).symm
  | some k=>
   refine⟨rfl,_,rfl,vG (by first | rfl | simp [oV]) ⟨_,rfl,?_,rfl,?_⟩⟩
   ·rw[zU,sizeLine_eq]
    lia
   ·rw[bH hk,ha]
    unfold aB
    rw[jH]
    rfl
 rintro acc H0 ⟨rfl,rfl⟩ pq hpq
 have ea:(os.take (aB os).length).filter (fun r:Nat=>(bj (inter os) bx ds (r:Int) ev).isSome)=bh os bx ds ev:=by
  rw[zU,tW (bu _)]
  rfl
 rw[ea]
 have hA:∀ r∈bh os bx ds ev,r < rs.length/\(bj (inter os) bx ds (r:Int) ev).isSome=true:=fun r hr'=>⟨hos r (dq.mp hr').1,(dq.mp hr').2⟩
 have la:(bh os bx ds ev).length<=40:=Nat.le_trans (jh _ _) qDE
 have u1:=zF hpq (.lst (aB (bh os bx ds ev)))
 have i1:upd H0 pq (.lst (aB (bh os bx ds ev))) pq=some (.lst (aB (bh os bx ds ev))):=zC
 generalize upd H0 pq (.lst (aB (bh os bx ds ev)))=H1 at u1 i1 ⊢
 refine⟨Nat.zero_le _,fun pw Vo=>?_⟩
 have npw:=u1.free Vo
 have qDB:pq ≠ pw:=zM i1 Vo
 have u2:=zF Vo (.lst [])
 have i2:upd H1 pw (.lst []) pw=some (.lst (aB [])):=zC
 generalize upd H1 pw (.lst [])=H2 at u2 i2 ⊢
 refine⟨fun σ' Hi => ∃ o3 o6:Option V,aM H0 Hi/\Hi pw=some (.lst (aB (ie (gA od) (aA rs) os bx ds ev)))/\σ'=[some (.ref pc),some (.ref rE),some (.int ev),o3,some (.ref pq),some (.ref pw),o6],?_,?_⟩
 ·refine⟨_,rfl,pq,rfl,⟨_,aX.of (u2 _ _ i1)⟩,?_⟩
  refine dC (K:=K) (a:=pq) (xs:=aB (bh os bx ds ev)) (fun i σ' Hi => ∃ o3 o6:Option V,aM H0 Hi/\Hi pq=some (.lst (aB (bh os bx ds ev)))/\Hi pw=some (.lst (aB ((((bh os bx ds ev).take i).filter fun r => !lO (gA od) (aA rs) r (bh os bx ds ev)).map fun r:Nat=>(bj (inter os) bx ds (r:Int) ev).getD 0)))/\σ'=[some (.ref pc),some (.ref rE),some (.int ev),o3,some (.ref pq),some (.ref pw),o6])
   ⟨_,_,u1.trans u2,u2 _ _ i1,i2,rfl⟩ (fun i σ' Hi _ ⟨_,_,_,z,_⟩=>aX.of z) ?_ ?_
  ·rintro i y σ' H3 hy aP
   refine aK fun G_ g_=>?_
   obtain⟨o3,o6,s3,h3q,XM,rfl⟩:=aP
   obtain⟨hi,rfl⟩:=yR hy
   refine g_ ?_;clear g_
   have hm:=hA _ (fB hi)
   have et:=bH (f:=fun r => !lO (gA od) (aA rs) r (bh os bx ds ev)) (cj hi)
   generalize (bh os bx ds ev)[i]=r at hm et
   have lt':(aB ((((bh os bx ds ev).take i).filter fun r => !lO (gA od) (aA rs) r (bh os bx ds ev)).map fun r:Nat=>(bj (inter os) bx ds (r:Int) ev).getD 0)).length<=63:=by
    rw[zU,cM]
    have:=jh (fun r => !lO (gA od) (aA rs) r (bh os bx ds ev)) ((bh os bx ds ev).take i)
    rw[dN]at this
    lia
   have hR3:=hR.mono (aF.of s3)
   -- the rooms ahead
   refine⟨fun σ' Hi => ∃ pa:Addr,aM H3 Hi/\Hi pa=some (.lst (aB ((bh os bx ds ev).filter fun o=>if gA od=true then Tr.aJ (aA rs) o r else Tr.aJ (aA rs) r o)))/\σ'=[some (.ref pc),some (.ref rE),some (.int ev),some (.int (r:Int)),some (.ref pq),some (.ref pw),some (.ref pa)],?_,?_⟩
   ·refine⟨_,rfl,aD (aH.of (s3 _ _ rF)) rfl ⟨rfl,_,rfl,?_⟩⟩
    have cmp:∀ {Z:List V->Hp->Prop} {f:Nat->Bool} {tc:TT} {te:TE} {cs:St},(∀(i:Nat)(o:Nat)(acc:List V),o < rs.length->(∀ Zb:Bool->Hp->Prop,Zb (f o) H3->tc (some (.int (o:Int)) :: cs) H3 Zb))->(∀(o:Nat)(Zv:V->Hp->Prop),Zv (.int (o:Int)) H3->te (some (.int (o:Int)) :: cs) H3 Zv)->Z (aB ((bh os bx ds ev).filter f)) H3->fP (WY K pq) cs tc te H3 Z:=fun {Z f tc te cs} h1 h2 h3=>by
     refine yS (K:=K) (a:=pq) (xs:=aB (bh os bx ds ev)) (fun i acc H'=>H'=H3/\acc=aB (((bh os bx ds ev).take i).filter f)) ⟨rfl,rfl⟩ (fun i acc H' z=>by rw[z.1];exact aX.of h3q) ?_ ?_
     ·rintro i y acc H' hy ⟨rfl,rfl⟩
      obtain⟨hi,rfl⟩:=yR hy
      have hk:=cj hi
      have hm:=hA _ (fB hi)
      generalize (bh os bx ds ev)[i]=o at hk hm
      have ll:(((bh os bx ds ev).take i).filter f).length<=40:=by
       have:=jh f ((bh os bx ds ev).take i)
       rw[dN]at this
       lia
      refine h1 i o [] hm.1 _ ?_
      cases hf:f o with
      | true=>
       refine vG rfl (h2 o _ ⟨?_,rfl,?_⟩)
       ·rw[zU,sizeLine_eq]
        lia
       ·rw[bH hk,hf]
        unfold aB
        rw[jH]
        rfl
      | false=>
       refine uQ rfl ⟨rfl,?_⟩
       rw[bH hk,hf]
       exact (congrArg aB (dM _)).symm
     ·rintro acc H' ⟨rfl,rfl⟩
      rw[zU,tW (bu _)]
      exact h3
    refine cW (fun z=>?_) (fun z=>?_)
    ·have z:gA od=true:=z
     refine⟨_,rfl,pq,rfl,⟨_,aX.of h3q⟩,?_⟩
     refine cmp (f:=fun o=>if gA od=true then Tr.aJ (aA rs) o r else Tr.aJ (aA rs) r o) (fun i o acc ho Zb hz=>?_) (fun o Zv hz=>⟨_,rfl,hz⟩) (fun pa hpa=>⟨pa,zF hpa _,zC,rfl⟩)
     rw[if_pos z]at hz
     exact⟨_,rfl,aD (aH.of (s3 _ _ rF)) rfl ⟨_,rfl,_,rfl,t,rs,_,_,o,r,rfl,rfl,rfl,hR3,by lia,ho,hm.1,_,rfl,hz⟩⟩
    ·have z:gA od=false:=z
     have z':¬ gA od=true:=fun y=>by rw[z]at y;cases y
     refine⟨_,rfl,pq,rfl,⟨_,aX.of h3q⟩,?_⟩
     refine cmp (f:=fun o=>if gA od=true then Tr.aJ (aA rs) o r else Tr.aJ (aA rs) r o) (fun i o acc ho Zb hz=>?_) (fun o Zv hz=>⟨_,rfl,hz⟩) (fun pa hpa=>⟨pa,zF hpa _,zC,rfl⟩)
     rw[if_neg z']at hz
     exact⟨_,rfl,aD (aH.of (s3 _ _ rF)) rfl ⟨_,rfl,_,rfl,t,rs,_,_,r,o,rfl,rfl,rfl,hR3,by lia,hm.1,ho,_,rfl,hz⟩⟩
   rintro σ' H4 aP
   refine aK fun G_ g_=>?_
   obtain⟨pa,s4,h4a,rfl⟩:=aP
   refine g_ ?_;clear g_
   have yc:=s3.trans s4
   refine⟨_,rfl,fW rfl (.inl (aX.of h4a)) ⟨rfl,_,rfl,?_⟩⟩
   have key:=Qn (gA od) (aA rs) r (bh os bx ds ev)
   refine cW (fun c=>?_) (fun c=>?_)
   ·have c':(!lO (gA od) (aA rs) r (bh os bx ds ev))=true:=by rw[<-key];exact c
    obtain⟨k,hk⟩:=Option.isSome_iff_exists.mp hm.2
    refine⟨_,rfl,.inl ⟨rfl,_,aX.of (s4 _ _ XM)⟩,_,rfl,_,rfl,_,rfl,_,rfl,pc,rE,pd,o,b,inter os,bx,ds,dv,_,_,_,_,_,_,_,_,ev,rfl,yc _ _ rF,yc _ _ hpd,hds.mono (fun _ _ z=>z.mono (aF.of yc)),yc _ _ hst,(by rw[qQ];exact yc _ _ ho),yc _ _ hb,hok,by lia,?_⟩
    rw[hk]
    refine⟨pw,_,_,rfl,rfl,s4 _ _ XM,zV (by lia),?_⟩
    refine⟨_,_,cB npw yc _,?_,?_,rfl⟩
    ·rw[zQ qDB]
     exact s4 _ _ h3q
    ·rw[zC,et,if_pos c',jH]
     unfold aB
     rw[jH,List.map_cons,List.map_nil,hk]
     rfl
   ·have c':(!lO (gA od) (aA rs) r (bh os bx ds ev))=false:=by rw[<-key];exact c
    refine⟨_,_,yc,s4 _ _ h3q,?_,rfl⟩
    rw[et,if_neg (by rw[c'];decide),dM]
    exact s4 _ _ XM
  ·rintro σ' H3 aP
   refine aK fun G_ g_=>?_
   obtain⟨o3,o6,s3,h3q,XM,rfl⟩:=aP
   refine g_ ?_;clear g_
   refine⟨_,_,s3,?_,rfl⟩
   rw[zU,tW (bu _)]at XM
   exact XM
 rintro σ' H3 aP
 refine aK fun G_ g_=>?_
 obtain⟨o3,o6,s3,XM,rfl⟩:=aP
 refine g_ ?_;clear g_
 exact⟨_,rfl,q pw H3 s3 npw XM⟩
end
end Ru
namespace Ru
open PySem L2 mR oU tZ Ds yd jA
open mO (Al gG)
theorem T3(x y:Str):decide (V.str x=V.str y)=decide (x=y):=decide_eq_decide.mpr ⟨fun h=>by injection h,fun h=>by rw[h]⟩
theorem Fq{c:ig}{d:Dx}{os:List Nat}{r:Nat}(hr:r∈aO c d os):r∈os:=by
 unfold aO at hr
 split at hr
 ·cases hr
 ·exact (dq.mp (List.mem_reverse.mp hr)).1
theorem Ri(c:ig)(d:Dx)(os:List Nat):(aO c d os).length<=os.length:=by
 unfold aO
 split
 ·exact Nat.zero_le _
 ·exact Ey _ _ _
def uT(rs:List Rm)(os ls:List Nat)(ks:List (List Nat))(r:Nat):List Nat:=if r∈ls/\bM rs r=("near" : Str) then (Tr.kids (aA rs) r).filter (fun k=>decide (k∈os)) else if r∈ls/\bM rs r=("deep" : Str) then os.filter (fun o=>Qf rs o && Tr.aJ (aA rs) o r) else ks.getD r []
theorem Uv{rs:List Rm}{os ls:List Nat}{ks:List (List Nat)}{r:Nat}(full:Tr.jC (aA rs) (Mf rs) (iu rs) os)(lt:∀ o∈os,o < rs.length)(sub:∀ r∈ls,r∈os)(kp:∀ x∈rs,vM.Bd x)(lk:ks.length=rs.length)(hr:r < rs.length):(aj rs os ls ks)[r]? = some (uT rs os ls ks r):=by
 have er:=cj hr
 have k1:=kp _ (fB hr)
 have O8:=t7 er
 rw[pP rs os ls ks r (by lia)]
 have old:ks[r]? = some (ks.getD r []):=by
  rw[jl,cj (by lia)]
  rfl
 unfold uT
 by_cases hl:r∈ls
 ·rcases k1 with k1 | ⟨k1,k2⟩ | k1
  ·rw[k1]at O8
   rw[O8,if_neg (fun z=>z.2 rfl),if_neg (fun z=>absurd z.2 (by decide +kernel)),if_neg (fun z=>absurd z.2 (by decide +kernel)),old]
  ·rw[k1]at O8
   rw[if_pos ⟨hl,by rw[O8];decide +kernel⟩,if_pos ⟨hl,O8⟩]
   unfold iY dj
   rw[if_pos O8]
   have ho:Mf rs r=true:=by
    unfold Mf
    rw[jF er,k2]
    exact decide_eq_true rfl
   have ha:iu rs r=false:=by
    unfold iu
    rw[jF er,k2]
    decide +kernel
   rw[Tr.Mx full (fun o h=>by rw[yV];exact lt o h) (sub r hl) ho ha]
   congr 1
   refine cQ _ _ (full.1.filter _) ((Tr.iD _ _).filter _) fun k=>?_
   rw[dq,dq,Tr.bC,decide_eq_true_iff,yV]
   exact⟨fun ⟨a,b⟩=>⟨⟨lt k a,eq_of_beq b⟩,a⟩,fun ⟨⟨_,b⟩,a⟩=>⟨a,by rw[b];exact beq_self_eq_true _⟩⟩
  ·rw[k1]at O8
   rw[if_pos ⟨hl,by rw[O8];decide +kernel⟩,O8,if_neg (fun z=>absurd z.2 (by decide +kernel)),if_pos ⟨hl,rfl⟩]
   unfold iY dj
   rw[O8,if_neg (by decide +kernel),List.filter_filter]
 ·rw[if_neg (fun z=>hl z.1),if_neg (fun z=>hl z.1),if_neg (fun z=>hl z.1),old]
theorem W2{K:PySem.W.Frag}{H:Hp}{pb:Addr}{bv:List V}{bs:List (Int × Int)}(h:H pb=some (.tup bv))(hA:Al (vM.Gr H) bv bs)(l:bs.length<=100)(g:Int × Int->Int){cs:St}{tc:TT}{te:TE}{Z:List V->Hp->Prop}
  (h1:∀(a:Addr)(Zb:Bool->Hp->Prop),Zb true H->tc (some (.ref a) :: cs) H Zb) (h2:∀(a:Addr)(nm:Str)(b:Int × Int),H a=some (.tup [.str nm,.int b.1,.int b.2])->∀ Zv:V->Hp->Prop,Zv (.int (g b)) H->te (some (.ref a) :: cs) H Zv) (h3:Z ((bs.map g).map V.int) H):fP (Xc K pb) cs tc te H Z:=by
 have lbv:=hA.length
 refine mD (K:=K) (a:=pb) (xs:=bv) (fun i acc H'=>H'=H/\acc=((bs.map g).take i).map V.int) ⟨rfl,rfl⟩ (fun i acc H' z=>by rw[z.1];exact aH.of h) ?_ ?_
 ·rintro i y acc H' hy ⟨rfl,rfl⟩
  have hi:i < bs.length:=by
   have:=(yZ.mp hy).1
   lia
  have er:=cj hi
  obtain⟨v,hv,a,nm,rfl,ha⟩:=hA.get er
  rw[hv]at hy
  obtain rfl:=oN hy
  refine h1 a _ (vG rfl (h2 a nm _ ha _ ⟨zV (by rw[cM,dN,cM];lia),rfl,?_⟩))
  rw[gB,qd,er,jH]
  rfl
 ·rintro acc H' ⟨rfl,rfl⟩
  rw[show (bs.map g).take bv.length=bs.map g from tW (by rw[cM];lia)]
  exact h3
def lC(f:Nat->Bool):Nat->Option Nat
 | 0=>none
 | n+1=>if f n=true then some n else lC f n
theorem Av{f:Nat->Bool}:∀ n,(∀ x,x < n->f x=false)->lC f n=none
 | 0,_=>rfl
 | n+1,h=>by
  show (if f n=true then some n else lC f n)=none
  rw[if_neg (by rw[h n (by lia)];decide)]
  exact Av n fun x hx=>h x (by lia)
theorem Ar{f:Nat->Bool}{u:Nat}(hu:f u=true):∀ n,u < n->(∀ x,u < x->x < n->f x=false)->lC f n=some u
 | 0,h,_=>by lia
 | n+1,h,g=>by
  show (if f n=true then some n else lC f n)=some u
  by_cases e:u=n
  ·rw[<-e,if_pos hu]
  ·rw[if_neg (by rw[g n (by lia) (by lia)];decide)]
   exact Ar hu n (by lia) fun x h1 h2=>g x h1 (by lia)
theorem O6{ds:List Int}{is:Nat->Bool}{a b n:Nat}(ha:a < n):lC (fun x=>is x && (Tr.aJ ds a x && Tr.aJ ds b x)) n=Tr.hall ds is a b:=by
 unfold Tr.hall Tr.aJ
 cases e:(Tr.ups ds a).find? (fun x=>(Tr.ups ds b).contains x && is x) with
 | none=>
  refine Av n fun x _=>?_
  cases h1:(Tr.ups ds a).contains x with
  | false=>rw[Bool.false_and,Bool.and_false]
  | true=>
   have:=List.find?_eq_none.mp e x (List.contains_iff_mem.mp h1)
   cases h2:(Tr.ups ds b).contains x with
   | false=>rw[Bool.and_false,Bool.and_false]
   | true=>
    rw[h2,Bool.true_and]at this
    rw[Bool.eq_false_iff.mpr this,Bool.false_and]
 | some u=>
  have hm:=List.mem_of_find?_eq_some e
  have hp:=List.find?_some e
  rw[Bool.and_eq_true]at hp
  have ua:=Tr.ou hm
  refine Ar (by rw[hp.2,List.contains_iff_mem.mpr hm,hp.1];rfl) n (by lia) fun x h1 _=>?_
  cases hx:(is x && ((Tr.ups ds a).contains x && (Tr.ups ds b).contains x)) with
  | false=>rfl
  | true=>
   exfalso
   rw[Bool.and_eq_true,Bool.and_eq_true]at hx
   obtain⟨x1,x2,x3⟩:=hx
   obtain⟨_,as,bs,e2,no⟩:=List.find?_eq_some_iff_append.mp e
   have xm:=List.contains_iff_mem.mp x2
   have desc:=Tr.Px ds a
   rw[e2]at xm desc
   rcases cX.mp xm with z | z
   ·have:=no x z
    rw[x3,x1]at this
    cases this
   ·rcases dG.mp z with z | z
    ·lia
    ·have:=(List.pairwise_cons.mp (List.pairwise_append.mp desc).2.1).1 x z
     lia
def Jy:Sp:=fun vs H Q _ => ∃(t:Addr)(rs:List Rm)(one other:Nat),vs=[.ref t,.int (one:Int),.int (other:Int)]/\cD H t rs/\rs.length<=40/\one < rs.length/\other < rs.length/\Q (pV (Tr.hall (aA rs) (vL.isOne rs) one other)) H
theorem TF{K:PySem.W.Frag}{a:Addr}{xs:List V}{cs:St}{tc:TT}{te:TE}{H1:Hp}{Z:List V->Hp->Prop}(Pv:Nat->List V->Hp->Prop)(h0:Pv 0 [] H1)(hl:∀ i acc H,Pv i acc H->aH K H a xs)
  (hs:∀ i x acc H,xs.reverse[i]? = some x->Pv i acc H->tc (some x :: cs) H fun b H2=>if b=true then te (some x :: cs) H2 fun v H3=>acc.length < sizeLine/\Pv (i+1) (acc++[v]) H3 else Pv (i+1) acc H2)
  (hd:∀ acc H,Pv xs.length acc H->Z acc H):fP (Itv K a xs.length) cs tc te H1 Z:=
 vy xs.length Pv h0 (fun acc H p=>⟨bu _,hd acc H p⟩) fun i acc H hi p=>⟨⟨xs,hl _ _ _ p,rfl,hi⟩,fun x H' y=>by
  obtain⟨e,y⟩:=y
  subst e
  exact hs i x acc _ (by rw[List.getElem?_reverse hi];exact y xs (hl _ _ _ p)) p⟩
theorem JN{K:PySem.W.Frag}{H:Hp}{p:Addr}{L:List Nat}(hp:H p=some (.tup (aB L)))(hl:L.length<=1000)(f:Nat->Bool){cs:St}{tc:TT}{te:TE}{Z:List V->Hp->Prop}
  (h1:∀ o∈L,∀ Zb:Bool->Hp->Prop,Zb (f o) H->tc (some (.int (o:Int)) :: cs) H Zb) (h2:∀(o:Nat)(Zv:V->Hp->Prop),Zv (.int (o:Int)) H->te (some (.int (o:Int)) :: cs) H Zv) (h3:Z (aB (L.filter f).reverse) H):fP (Itv K p (aB L).length) cs tc te H Z:=by
 refine TF (K:=K) (a:=p) (xs:=aB L) (fun i acc H'=>H'=H/\acc=aB ((L.reverse.take i).filter f)) ⟨rfl,rfl⟩ (fun i acc H' z=>by rw[z.1];exact aH.of hp) ?_ ?_
 ·rintro i y acc H' hy ⟨rfl,rfl⟩
  have er:(aB L).reverse=aB L.reverse:=List.map_reverse.symm
  rw[er]at hy
  obtain⟨hi,rfl⟩:=yR hy
  have hk:=cj hi
  have hm:=List.mem_reverse.mp (fB hi)
  rw[List.length_reverse]at hi
  generalize L.reverse[i]=o at hk hm
  have ll:((L.reverse.take i).filter f).length<=1000:=by
   have:=jh f (L.reverse.take i)
   rw[dN]at this
   lia
  refine h1 o hm _ ?_
  cases hf:f o with
  | true=>
   refine vG rfl (h2 o _ ⟨?_,rfl,?_⟩)
   ·rw[zU,sizeLine_eq]
    lia
   ·rw[bH hk,hf]
    unfold aB
    rw[jH]
    rfl
  | false=>
   refine uQ rfl ⟨rfl,?_⟩
   rw[bH hk,hf]
   exact (congrArg aB (dM _)).symm
 ·rintro acc H' ⟨rfl,rfl⟩
  rw[zU,tW (by rw[List.length_reverse];exact bu _),List.filter_reverse]
  exact h3
theorem Yo{c:ig}{d:Dx}{os:List Nat}(full:Tr.jC (aA c.rs) (Mf c.rs) (iu c.rs) os)(lt:∀ o∈os,o < c.rs.length)(ro:d.room∈os):∀ u,cG c d=some u->u∈os:=fun u hu=>full.ups (fun o ho=>by rw[yV];exact lt o ho) d.room ro u (List.mem_of_find?_eq_some hu)
theorem made{C:Addr}{H H1:Hp}{x dx:Addr}{fp:List Addr}(nx:H x=none)(ndx:H dx=none)(own:∀ b∈fp,b=x ∨ upd (upd H dx (.own x)) x (.ins C dx []) b=none)(rest:∀ b o,upd (upd H dx (.own x)) x (.ins C dx []) b=some o->b ≠ x->H1 b=some o):aM H H1/\∀ b∈fp,H b=none:=by
 refine⟨fun b o e=>?_,fun b hb=>?_⟩
 ·have nb:b ≠ x:=zM e nx
  refine rest b o ?_ nb
  rw[zQ nb,zQ (zM e ndx)]
  exact e
 ·rcases own b hb with z | z
  ·rw[z]
   exact nx
  ·by_cases y:b=x
   ·rw[y]
    exact nx
   ·rw[zQ y]at z
    by_cases y2:b=dx
    ·rw[y2]
     exact ndx
    ·rw[zQ y2]at z
     exact z
theorem KQ{c:ig}{gR:List En}{s0:S4}:∀ {n:Nat} {e1:List En} {s1:S4},jm c gR s0 n e1 s1->∀ {e2:List En} {s2:S4},jm c gR s0 n e2 s2->e1=e2/\s1=s2:=by
 intro n e1 s1 h1
 induction h1 with
 | one=>
  intro e2 s2 h2
  generalize hm:1=m at h2
  cases h2 with
  | one=>exact⟨rfl,rfl⟩
  | @more n _ _ _ _ _ _ h _ _ _=>
   have:n=0:=by lia
   subst this
   exact absurd h (by
    intro z
    generalize hz:(0:Nat)=q at z
    cases z with
    | one=>lia
    | more=>lia)
 | @more n es e2' s s2' e l h lt el tr ih=>
  intro e2 s2 h2
  generalize hm:n+1=m at h2
  cases h2 with
  | one=>
   have:n=0:=by lia
   subst this
   exact absurd h (by
    intro z
    generalize hz:(0:Nat)=q at z
    cases z with
    | one=>lia
    | more=>lia)
  | @more n' es' e3 s' s3 e' l' h' lt' el' tr'=>
   obtain rfl:n=n':=by lia
   obtain⟨rfl,rfl⟩:=ih h'
   rw[el]at el'
   injection el' with a b
   subst a
   subst b
   obtain⟨rfl,rfl⟩:=Dw tr tr'
   exact⟨rfl,rfl⟩
theorem KN{c:ig}{gR:List En}{s0:S4}{n:Nat}{e1:List En}{s1:S4}(h:jm c gR s0 n e1 s1):1<=n:=by
 cases h with
 | one=>exact bu _
 | more=>lia
theorem Qa{c:ig}{gR:List En}{s0:S4}:∀ {n:Nat} {e1:List En} {s1:S4},jm c gR s0 n e1 s1->∀ m:Nat,1<=m->m < n->∃ e2 s2,jm c gR s0 m e2 s2/\m < c.tn/\s2.l ≠ []:=by
 intro n e1 s1 h1
 induction h1 with
 | one=>
  intro m m1 m2
  lia
 | @more n es e2' s s2' e l h lt el tr ih=>
  intro m m1 m2
  by_cases z:m < n
  ·exact ih m m1 z
  ·have:m=n:=by lia
   subst this
   exact⟨es,s,h,lt,by rw[el];simp⟩
theorem Ut{c:ig}{gR:List En}{s0 s1 s2:S4}{n m:Nat}{e1 e2:List En}(h1:jm c gR s0 n e1 s1)(h2:jm c gR s0 m e2 s2)(d1:c.tn<=n ∨ s1.l=[])(d2:c.tn<=m ∨ s2.l=[]):e1=e2/\s1=s2:=by
 have p1:=KN h1
 have p2:=KN h2
 have key:∀ {n m:Nat} {e1:List En} {s1:S4} {e2:List En} {s2:S4},jm c gR s0 n e1 s1->jm c gR s0 m e2 s2->1<=n->(c.tn<=n ∨ s1.l=[])->¬ n < m:=fun {n m e1 s1 e2 s2} h1 h2 p1 d1 z=>by
  obtain⟨e3,s3,h3,a,b⟩:=Qa h2 n p1 z
  obtain⟨_,rfl⟩:=KQ h1 h3
  rcases d1 with y | y
  ·lia
  ·exact b y
 have:n=m:=by
  have a:=key h1 h2 p1 d1
  have b:=key h2 h1 p2 d2
  lia
 subst this
 exact KQ h1 h2
section
variable{P:Program}{w:World}{K:PySem.W.Frag}{mg:Str->Option Value}{base:Heap}
theorem jq:aN ["_law_rooms_here","_law_one","_law_other","_law_hall_here","_law_k"] ["_law_rooms_here","_law_one","_law_other"] (aG rQ):=⟨rfl,rfl,rfl,by decide +kernel,rfl,by decide +kernel,by decide +kernel⟩
theorem R3{n:Nat}{f gl:Addr}{fd dl:FuncData}(F:cZ K "_law_hall" "_law_hall" rQ f fd)
  (eV:aL P w K mg base aq n gl dl ["_law_rooms_here","_law_one","_law_other"] gG) (eU:Binds K dl ["_law_rooms_here","_law_one","_law_other"] []) (eG:KI K gl) (eF:mg "_law_lies" = some (.ref gl)) (aZ:mg "range" = none) (aY:mg "len" = none) :
  aL P w K mg base aq (n+1) f fd ["_law_rooms_here","_law_one","_law_other"] Jy:=by
 refine F.ok jq (fun vs H Q E h=>?_) (fun cdv A outer s H vs Q E hr h=>?_)
 ·refine aK fun G_ g_=>?_
  obtain⟨t,rs,one,other,rfl,_⟩:=h
  refine g_ ?_;clear g_
  rfl
 refine aK fun G_ g_=>?_
 obtain⟨t,rs,one,other,rfl,hR,r40,h1,h2,q⟩:=h
 refine g_ ?_;clear g_
 refine⟨_,(zE (zK (i:=3) jq.nd rfl (Or.inl rfl) fV)
  (zZ (bN PassesOwn.never rfl (bV rfl aZ (zA (zS zN rfl aY PySem.boot_len (zA (pv 0) zD)) zD)) (yJ (i:=4) jq.nd rfl (Or.inl rfl))
  (zG (yD (bW (PW.pt (pw_and (zL yG (yB zH (yB zH (pv 0) (pv 4) (fun _ _=>rfl)) zB (fun _ _=>rfl)) zP (zR _)) (pw_and (c7 (zJ eV hr rfl eF eG eU .nil yE (zA (pv 0) (zA (pv 1) (zA (pv 4) zD))))) (yP (c7 (zJ eV hr rfl eF eG eU .nil yE (zA (pv 0) (zA (pv 2) (zA (pv 4) zD))))))))))
  (zG (zK (i:=3) jq.nd rfl (Or.inl rfl) (pv 4)))
  zT)))
  (zG (zO (pv 3))))),?_⟩
 refine aK fun G_ g_=>?_
 obtain⟨rv,htr,hrs⟩:=id hR
 have X3:=hrs.length
 obtain⟨f,hf⟩:∃ f:Nat->Bool,f=fun x=>vL.isOne rs x && (Tr.aJ (aA rs) one x && Tr.aJ (aA rs) other x):=⟨_,rfl⟩
 refine g_ ?_;clear g_
 refine⟨fun σ' H'=>H=H'/\∃ o4:Option V,σ'=[some (.ref t),some (.int (one:Int)),some (.int (other:Int)),some (pV (lC f rs.length)),o4],?_,?_⟩
 ·refine⟨_,rfl,fW rfl (.inr (aH.of htr)) ⟨_,rfl,by lia,by lia,?_⟩⟩
  refine bR (fun i σ' H'=>H=H'/\∃ o4:Option V,σ'=[some (.ref t),some (.int (one:Int)),some (.int (other:Int)),some (pV (lC f i)),o4]) ⟨rfl,none,rfl⟩ ?_ ?_
  ·rintro i σ' _ hi aP
   refine aK fun G_ g_=>?_
   obtain⟨rfl,o4,rfl⟩:=aP
   have hi':i < rs.length:=by
    simp at hi
    lia
   obtain⟨vr,hvr,ar,rfl,har⟩:=hrs.get (cj hi')
   refine g_ ?_;clear g_
   have pQ:oR rv (0+(i:Int))=some (.ref ar):=by
    rw[Int.zero_add]
    exact yQ hvr
   have e1:vL.isOne rs i=decide (V.str rs[i].kind=V.str ("one" : Str)):=by
    unfold vL.isOne
    rw[cj hi']
   refine⟨fun b H'=>H=H'/\b=f i,?_,?_⟩
   ·refine⟨_,rfl,_,rfl,aD (aH.of htr) pQ (aD (aH.of har) rfl ⟨rfl,_,rfl,cW (fun z=>?_) (fun z=>?_)⟩)⟩
    ·have z:vL.isOne rs i=true:=e1.trans z
     refine⟨_,rfl,_,rfl,_,rfl,t,rs,_,_,one,i,rfl,rfl,by lia,hR,by lia,h1,hi',_,rfl,cW (fun y=>?_) (fun y=>?_)⟩
     ·exact⟨_,rfl,_,rfl,_,rfl,t,rs,_,_,other,i,rfl,rfl,by lia,hR,by lia,h2,hi',_,rfl,rfl,by rw[hf];show _=(vL.isOne rs i && (Tr.aJ (aA rs) one i && _));rw[z,y];rfl⟩
     ·exact⟨rfl,by rw[hf];show false=(vL.isOne rs i && (Tr.aJ (aA rs) one i && _));rw[y,Bool.false_and,Bool.and_false]⟩
    ·have z:vL.isOne rs i=false:=e1.trans z
     exact⟨rfl,by rw[hf];show false=(vL.isOne rs i && _);rw[z,Bool.false_and]⟩
   rintro b _ ⟨rfl,hb⟩
   refine cW (fun z=>?_) (fun z=>?_)
   ·rw[hb]at z
    refine⟨_,rfl,rfl,some (.int (0+(i:Int))),?_⟩
    show _=[_,_,_,some (pV (if f i=true then some i else lC f i)),_]
    rw[if_pos z,Int.zero_add]
    rfl
   ·rw[hb]at z
    refine⟨rfl,some (.int (0+(i:Int))),?_⟩
    show _=[_,_,_,some (pV (if f i=true then some i else lC f i)),_]
    rw[if_neg (by rw[z];decide)]
    rfl
  ·rintro σ' _ aP
   refine aK fun G_ g_=>?_
   obtain⟨rfl,o4,rfl⟩:=aP
   refine g_ ?_;clear g_
   rw[show ((rv.length:Int)).toNat=rs.length by lia]
   exact⟨rfl,o4,rfl⟩
 rintro σ' _ aP
 refine aK fun G_ g_=>?_
 obtain⟨rfl,o4,rfl⟩:=aP
 refine g_ ?_;clear g_
 rw[hf,O6 h1]
 exact⟨_,rfl,q⟩
end
end Ru
namespace Ru
open PySem L2 mR oU tZ Ds yd jA
open mO (Al)
def PN(c:ig)(ev:Int)(s:S4)(es:List En)(s':S4):Prop:=∃(e1 e2:List En)(s1:S4)(n:Nat),pY c ev s e1 s1/\jm c e1 s1 n e2 s'/\(c.tn<=n ∨ s'.l=[])/\es=e2++nT s'.l
theorem WQ{c:ig}{ev:Int}{s s1 s2:S4}{e1 e2:List En}(h1:PN c ev s e1 s1)(h2:PN c ev s e2 s2):e1=e2/\s1=s2:=by
 obtain⟨a1,b1,t1,n1,x1,y1,z1,rfl⟩:=h1
 obtain⟨a2,b2,t2,n2,x2,y2,z2,rfl⟩:=h2
 obtain⟨rfl,rfl⟩:=Dw x1 x2
 obtain⟨rfl,rfl⟩:=Ut y1 y2 z1 z2
 exact⟨rfl,rfl⟩
def K5(n:Nat):Sp:=fun vs H Q _ => ∃(pc ps:Addr)(c:ig)(ev:Int)(s:S4),vs=[.ref pc,.ref ps,.int ev]/\za H pc c/\All c (Jw c) n/\dI H ps s/\pZ c s/\Jw c s.os s.ks/\s.l=[]/\c.tn<=20 ∧
 ∀(t ps' pw:Addr)(wv:List V)(es':List En)(s':S4)(H':Hp),PN c ev s es' s'->Jw c s'.os s'.ks->pZ c s'->aM H H'->H' t=some (.tup [.ref ps',.ref pw])->dI H' ps' s'->H' pw=some (.lst wv)->H pw=none->Al (bw H') wv es'->wv.length<=1000000->Q (.ref t) H'
section
variable{P:Program}{w:World}{K:PySem.W.Frag}{mg:Str->Option Value}{base:Heap}{C:Addr}
theorem wU:aN ["chart","stand","event","letters","told"] ["chart","stand","event"] (aG vP):=⟨rfl,rfl,rfl,by decide +kernel,rfl,by decide +kernel,by decide +kernel⟩
theorem RB{n m:Nat}{f g1 g2 gi:Addr}{fd d1 d2 di:FuncData}(F:cZ K "after" "after" vP f fd)(cl:Dt K C)(Mk':Mk K C gi)
  (qAI:aL P w K mg base aq m gi di ["self","most"] (QH C (LL C))) (qAC:Binds K di ["self","most"] []) (NK:mg "Letters" = some (.ref C))
  (Jg:aL P w K mg base aq (m+1) g1 d1 ["chart","stand","event","letters"] (HF C n)) (JS:Binds K d1 ["chart","stand","event","letters"] []) (Iz:KI K g1) (Il:mg "turn" = some (.ref g1))
  (Tz:aL P w K mg base aq (m+1) g2 d2 ["chart","stand","record","letters"] (Dy C n)) (Tf:Binds K d2 ["chart","stand","record","letters"] []) (Rq:KI K g2) (RZ:mg "rested" = some (.ref g2)) :
  aL P w K mg base aq (m+2) f fd ["chart","stand","event"] (K5 n):=by
 refine F.ok wU (fun vs H Q E h=>?_) (fun cdv A outer s H vs Q E hr h=>?_)
 ·refine aK fun G_ g_=>?_
  obtain⟨pc,ps,c,ev,s,rfl,_⟩:=h
  refine g_ ?_;clear g_
  rfl
 refine aK fun G_ g_=>?_
 obtain⟨pc,ps,c,ev,st,rfl,hC,al,hS,so,js,l0,Xk,q⟩:=h
 refine g_ ?_;clear g_
 refine⟨_,(zE (zK (i:=3) wU.nd rfl (Or.inl rfl) (V3 Mk' qAI hr rfl NK qAC .nil yE (zA (yB zH (pv 0) zB (fun _ _=>rfl)) zD)))
  (zE (zK (i:=4) wU.nd rfl (Or.inl rfl) (zJ Jg hr rfl Il Iz JS .nil yE (zA (pv 0) (zA (pv 1) (zA (pv 2) (zA (pv 3) zD))))))
  (zG (zO (zJ Tz hr rfl RZ Rq Tf .nil yE (zA (pv 0) (zA (yB zH (pv 4) zB (fun _ _=>rfl)) (zA (yB zH (pv 4) zB (fun _ _=>rfl)) (zA (pv 3) zD))))))))),?_⟩
 refine aK fun G_ g_=>?_
 obtain⟨pb,t,pd,x4,bv,dv,h1,h2,h3,h4,h5,h6,h7⟩:=id hC
 refine g_ ?_;clear g_
 refine⟨_,rfl,aD (aH.of h1) rfl (fun x dx nx ndx ndxx=>?_)⟩
 refine⟨x,dx,c.lb,rfl,zC,al.ok.NZ,fun fp H1 hL1 own rest=>⟨rfl,?_⟩⟩
 obtain⟨s1,nfp⟩:=made nx ndx own rest
 have toS:∀ {H':Hp} {fp':List Addr},cP H1 H' fp fp'->aM H H':=fun st b o e=>st.rest b o (s1 b o e) fun z=>by
  rw[nfp b z]at e
  cases e
 refine⟨_,rfl,_,rfl,_,rfl,_,rfl,pc,ps,x,c,ev,st,fp,Jw c,rfl,hC.mono (aF.of s1),al,hS.mono (aF.of s1),so,js,(by rw[l0];exact hL1),fun tt ps2 pr rv s2 es xX H2 TR j2 hL2 st2 htt hS2 so2 hr2 nr2 nrf2 XJ le2=>?_⟩
 have k2:=cP.keep st2 hL1
 refine⟨_,rfl,_,rfl,aD (aH.of htt) rfl ⟨_,rfl,aD (aH.of htt) rfl ⟨_,rfl,pc,ps2,pr,x,c,s2,es,rv,xX,Jw c,rfl,hC.mono ((aF.of s1).trans k2),al,hS2,so2,j2,hL2,hr2,XJ,le2,Xk,fun t3 ps3 pw wv n' es' s' fp3 H3 RR dn j3 so3 st3 ht3 hS3 hw3 nw3 nwf3 hA3 lw=>?_⟩⟩⟩
 have qCS:=cP.trans st2 st3
 exact q t3 ps3 pw wv _ s' H3 ⟨es,es',s2,n',TR,RR,dn,rfl⟩ j3 so3 (toS qCS) ht3 hS3 hw3 ((toS st2).free nw3) hA3 lw
end
end Ru
namespace Ru
open PySem L2 mR oU tZ Ds yd jA
open mO (Al gG)
theorem RL{ds:List Int}{al:Nat->Bool}{gs:List Nat}{p:Nat}(ha:al p=false):((Tr.kids ds p).filter (Tr.bears ds gs)++Tr.kids ds p).take 1=Tr.next ds al gs p:=by
 unfold Tr.next
 rw[if_neg (by rw[ha];decide),Tr.uz]
 cases (Tr.kids ds p).filter (Tr.bears ds gs) with
 | nil=>rfl
 | cons x l=>rfl
def InI(ds:List Int)(al:Nat->Bool)(gs nx L:List Nat):Prop:=L.Pairwise (· < ·)/\∀ x,x∈L ↔ ∃ k∈nx,x=k ∨ Tr.eZ ds al gs (some k) x
theorem InI.step{ds:List Int}{al:Nat->Bool}{gs:List Nat}{room kid:Nat}{nx L Lk:List Nat}(h:InI ds al gs nx L)(hk:Tr.Ov ds al gs (some kid) Lk)(pk:Tr.par ds kid=some room)(hn:∀ k∈nx,k < kid/\Tr.par ds k=some room):InI ds al gs (nx++[kid]) (L++[kid]++Lk):=by
 have lk:∀ b∈Lk,kid < b:=fun b hb=>((hk.2 b).mp hb).over kid rfl
 refine⟨List.pairwise_append.mpr ⟨List.pairwise_append.mpr ⟨h.1,List.pairwise_singleton _ _,fun a ha b hb=>?_⟩,hk.1,fun a ha b hb=>?_⟩,fun x=>?_⟩
 ·rw[cJ.mp hb]
  obtain⟨k,hkn,g⟩:=(h.2 a).mp ha
  obtain⟨k1,k2⟩:=hn k hkn
  exact Tr.sr k2 pk k1 (x:=a) (g.imp id fun z=>z.under)
 ·have:=lk b hb
  rcases cX.mp ha with z | z
  ·obtain⟨k,hkn,g⟩:=(h.2 a).mp z
   obtain⟨k1,k2⟩:=hn k hkn
   have:=Tr.sr k2 pk k1 (x:=a) (g.imp id fun z=>z.under)
   lia
  ·rw[cJ.mp z]
   exact this
 ·rw[cX,cX,cJ,h.2 x,hk.2 x]
  constructor
  ·rintro ((⟨k,hkn,g⟩ | e) | g)
   ·exact⟨k,List.mem_append_left _ hkn,g⟩
   ·exact⟨kid,List.mem_append_right _ (cJ.mpr rfl),.inl e⟩
   ·exact⟨kid,List.mem_append_right _ (cJ.mpr rfl),.inr g⟩
  ·rintro⟨k,hkn,g⟩
   rcases cX.mp hkn with z | z
   ·exact .inl (.inl ⟨k,z,g⟩)
   ·rw[cJ.mp z]at g
    rcases g with g | g
    ·exact .inl (.inr g)
    ·exact .inr g
def rK:Sp:=fun vs H Q _ => ∃(t pg:Addr)(rs:List Rm)(k:Nat)(gs:List Nat),vs=[.ref t,.int (k:Int),.ref pg]/\cD H t rs/\rs.length<=40/\k < rs.length/\H pg=some (.lst (aB gs))/\(∀ g∈gs,g < rs.length)/\Q (.bl (Tr.bears (aA rs) gs k)) H
def wN(n:Nat):Sp:=fun vs H Q _ => ∃(t pg:Addr)(rs:List Rm)(ir:Int)(room:Nat)(gs:List Nat),vs=[.ref t,.int ir,.ref pg]/\ir=(room:Int)/\cD H t rs/\Tr.Good (aA rs)/\Jl rs/\vM.WT (aA rs)/\rs.length<=40/\room < rs.length/\(5:Int)<=(aA rs).getD room 0+(n:Int)/\H pg=some (.lst (aB gs))/\(∀ g∈gs,g < rs.length)/\∀(p:Addr)(L:List Nat)(H':Hp),aM H H'->H p=none->H' p=some (.lst (aB L))->Tr.Ov (aA rs) (iu rs) gs (some room) L->Q (.ref p) H'
section
variable{P:Program}{w:World}{K:PySem.W.Frag}{mg:Str->Option Value}{base:Heap}
theorem rM:aN ["_law_rooms_here","_law_room","_law_goals","_law_goal"] ["_law_rooms_here","_law_room","_law_goals"] (aG vU):=⟨rfl,rfl,rfl,by decide +kernel,rfl,by decide +kernel,by decide +kernel⟩
theorem Mm{n:Nat}{f gl:Addr}{fd dl:FuncData}(F:cZ K "_law_bears" "_law_bears" vU f fd)
  (eV:aL P w K mg base aq n gl dl ["_law_rooms_here","_law_one","_law_other"] gG) (eU:Binds K dl ["_law_rooms_here","_law_one","_law_other"] []) (eG:KI K gl) (eF:mg "_law_lies" = some (.ref gl)):aL P w K mg base aq (n+1) f fd ["_law_rooms_here","_law_room","_law_goals"] rK:=by
 refine F.ok rM (fun vs H Q E h=>?_) (fun cdv A outer s H vs Q E hr h=>?_)
 ·refine aK fun G_ g_=>?_
  obtain⟨t,pg,rs,k,gs,rfl,_⟩:=h
  refine g_ ?_;clear g_
  rfl
 refine aK fun G_ g_=>?_
 obtain⟨t,pg,rs,k,gs,rfl,hR,r40,kl,UW,glt,q⟩:=h
 refine g_ ?_;clear g_
 refine⟨_,(zZ (bN PassesOwn.never rfl (yM (pv 2)) (yJ (i:=3) rM.nd rfl (Or.inl rfl))
  (zG (yD (bW (PW.pt (pw_or (zL yG (pv 3) (pv 1) (zR _)) (pw_or1 (c7 (zJ eV hr rfl eF eG eU .nil yE (zA (pv 0) (zA (pv 3) (zA (pv 1) zD)))))))))
  (zG (zO gU))
  zT)))
  (zG (zO gU))),?_⟩
 refine⟨fun σ' H'=>H=H'/\Tr.bears (aA rs) gs k=false,?_,?_⟩
 ·refine⟨_,rfl,pg,rfl,⟨_,aX.of UW⟩,?_⟩
  refine dC (K:=K) (a:=pg) (xs:=aB gs) (fun i σ' H'=>H=H'/\(∀ g∈gs.take i,(g == k || Tr.aJ (aA rs) g k)=false)/\∃ o3:Option V,σ'=[some (.ref t),some (.int (k:Int)),some (.ref pg),o3]) ⟨rfl,(fun g hg=>by cases hg),none,rfl⟩ (fun i σ' H' _ z=>by rw[<-z.1];exact aX.of UW) ?_ ?_
  ·rintro i x σ' _ hx aP
   refine aK fun G_ g_=>?_
   obtain⟨rfl,no,o3,rfl⟩:=aP
   obtain⟨hi,rfl⟩:=yR hx
   refine g_ ?_;clear g_
   have hk:=cj hi
   have hm:=fB hi
   have pW:gs.take (i+1)=gs.take i++[gs[i]]:=by
    rw[gB,hk]
    rfl
   generalize gs[i]=g at hk hm pW
   have eb:decide (V.int (g:Int)=V.int (k:Int))=(g == k):=by
    rw[Bool.eq_iff_iff,decide_eq_true_iff,beq_iff_eq]
    exact⟨fun z=>by injection z with z;lia,fun z=>by rw[z]⟩
   refine⟨fun b H'=>H=H'/\b=(g == k || Tr.aJ (aA rs) g k),?_,?_⟩
   ·refine⟨_,rfl,_,rfl,rfl,_,rfl,?_⟩
    rw[eb]
    refine cW (fun z=>⟨rfl,by rw[z];rfl⟩) (fun z=>?_)
    exact⟨_,rfl,_,rfl,_,rfl,t,rs,_,_,g,k,rfl,rfl,rfl,hR,by lia,glt g hm,kl,_,rfl,rfl,by rw[z,Bool.false_or]⟩
   rintro b _ ⟨rfl,hb⟩
   refine cW (fun z=>?_) (fun z=>?_)
   ·have:Tr.bears (aA rs) gs k=true:=List.any_eq_true.mpr ⟨g,hm,hb.symm.trans z⟩
    rw[this]at q
    exact q
   ·refine⟨rfl,fun g' hg'=>?_,_,rfl⟩
    rw[pW]at hg'
    rcases cX.mp hg' with y | y
    ·exact no g' y
    ·rw[cJ.mp y]
     exact hb.symm.trans z
  ·rintro σ' _ aP
   refine aK fun G_ g_=>?_
   obtain⟨rfl,no,o3,rfl⟩:=aP
   refine g_ ?_;clear g_
   rw[zU,List.take_length]at no
   refine⟨rfl,?_⟩
   unfold Tr.bears
   rw[List.any_eq_false]
   exact fun g hg=>by rw[no g hg];decide
 rintro σ' _ ⟨rfl,e⟩
 rw[e]at q
 exact q
theorem gY:aN ["_law_rooms_here","_law_room","_law_goals","_law_near","_law_gone","_law_kid"] ["_law_rooms_here","_law_room","_law_goals"] (aG n6):=⟨rfl,rfl,rfl,by decide +kernel,rfl,by decide +kernel,by decide +kernel⟩
theorem VJ{n m:Nat}{f gk gb:Addr}{fd dk db:FuncData}(F:cZ K "_law_ins" "_law_ins" n6 f fd)(kJ:aL P w K mg base aq (m+n) gk dk ["_law_rooms_here","_law_room"] rJ)(kE:Binds K dk ["_law_rooms_here","_law_room"] [])(jx:KI K gk)(ju:mg "_law_kids" = some (.ref gk))
  (mK:aL P w K mg base aq (m+n) gb db ["_law_rooms_here","_law_room","_law_goals"] rK) (mH:Binds K db ["_law_rooms_here","_law_room","_law_goals"] []) (lY:KI K gb) (lX:mg "_law_bears" = some (.ref gb))
  (DY:aL P w K mg base aq (m+n) f fd ["_law_rooms_here","_law_room","_law_goals"] (wN n)) (oE:Binds K fd ["_law_rooms_here","_law_room","_law_goals"] []) (kl_ins:KI K f) (nP:mg "_law_ins" = some (.ref f)) :
  aL P w K mg base aq (m+(n+1)) f fd ["_law_rooms_here","_law_room","_law_goals"] (wN (n+1)):=by
 refine F.ok gY (fun vs H Q E h=>?_) (fun cdv A outer s H vs Q E hr h=>?_)
 ·refine aK fun G_ g_=>?_
  obtain⟨t,pg,rs,ir,room,gs,rfl,_⟩:=h
  refine g_ ?_;clear g_
  rfl
 refine aK fun G_ g_=>?_
 obtain⟨t,pg,rs,ir,room,gs,rfl,rfl,hR,good,fit,low,lg,hroom,xT,UW,glt,q⟩:=h
 refine g_ ?_;clear g_
 refine⟨_,(zE (yD (zL yG (yB zH (yB zH (pv 0) (pv 1) (fun _ _=>rfl)) zB (fun _ _=>rfl)) zP (zR _))
  (zG (zO (yK zD)))
  zT)
  (zE (zK (i:=3) gY.nd rfl (Or.inl rfl) (zJ kJ hr rfl ju jx kE .nil yE (zA (pv 0) (zA (pv 1) zD))))
  (zZ (yD (zL yG (yB zH (yB zH (pv 0) (pv 1) (fun _ _=>rfl)) zB (fun _ _=>rfl)) zP (zR _))
  (zG (zK (i:=3) gY.nd rfl (Or.inl rfl) (fH q9 (yC kj (yT (bY:=[(0,"_law_rooms_here"),(2,"_law_goals")]) rfl (show bQ (aG n6) ["_law_rooms_here","_law_room","_law_goals","_law_near","_law_gone","_law_kid"] _ _ _ from ⟨rfl,rfl,by decide +kernel,by decide +kernel,by decide +kernel,by decide +kernel,by decide +kernel⟩) (yM (pv 3)) (fun _ _ _ _ _ _=>bU (c7 (zJ mK hr rfl lX lY mH .nil yE (zA (pv 1) (zA (pv 0) (zA (pv 2) zD)))))) (fun _ _ _ _ _ _=>(pv 0))) (pv 3)) iM (iK zB))))
  zT)
  (zE (zK (i:=4) gY.nd rfl (Or.inl rfl) (yK zD))
  (zZ (bN PassesOwn.never rfl (yM (pv 3)) (yJ (i:=5) gY.nd rfl (Or.inl rfl))
  (zG (zK (i:=4) gY.nd rfl (Or.inl rfl) (yC kj (yC kj (pv 4) (yK (zA (pv 5) zD))) (zJ DY hr rfl nP kl_ins oE .nil yE (zA (pv 0) (zA (pv 5) (zA (pv 2) zD))))))))
  (zG (zO (pv 4)))))))),?_⟩
 have ld:=yV rs
 refine aK fun G_ g_=>?_
 obtain⟨rv,a0,r0,ht,X3,hr0,qC2,ha0⟩:=hR.at hroom
 refine g_ ?_;clear g_
 have XR:iu rs room=decide (r0.kind=("all" : Str)):=by
  unfold iu
  rw[jF hr0]
 have hf:=fit room r0 hr0
 have kn:r0.kind=("plain" : Str)->Tr.kids (aA rs) room=[]:=fun ep=>List.eq_nil_iff_forall_not_mem.mpr fun k hk=>by
  refine aK fun G_ g_=>?_
  obtain⟨k1,k2⟩:=Tr.bC.mp hk
  obtain⟨z1,z2⟩:=Bh k1 k2
  refine g_ ?_;clear g_
  rw[if_pos ⟨by lia,z2⟩,ep]at hf
  rcases hf with z | z
  ·exact absurd z (by decide +kernel)
  ·exact absurd z (by decide +kernel)
 refine⟨_,rfl,_,rfl,aD (aH.of ht) qC2 (aD (aH.of ha0) rfl ⟨rfl,_,rfl,?_⟩)⟩
 by_cases ep:r0.kind=("plain" : Str)
 ·rw[ep]
  refine yO ⟨Nat.zero_le _,fun p hp=>q p [] _ (zF hp _) hp zC ⟨.nil,fun k=>⟨(fun z=>by cases z),fun z=>?_⟩⟩⟩
  refine aK fun G_ g_=>?_
  obtain⟨j,hj,_⟩:=Tr.gone_some.mp z
  refine g_ ?_;clear g_
  have:=Tr.lU hj
  rw[kn ep]at this
  cases this
 refine yN ep ?_
 refine⟨_,rfl,_,rfl,t,rs,_,room,rfl,rfl,hR,good,lg,hroom,fun pk H2 u2 npk Cr=>?_⟩
 refine⟨fun σ' H' => ∃ pi:Addr,aM H2 H'/\H' pi=some (.lst (aB (Tr.next (aA rs) (iu rs) gs room)))/\σ'=[some (.ref t),some (.int (room:Int)),some (.ref pg),some (.ref pi),none,none],?_,?_⟩
 ·refine⟨_,rfl,_,rfl,aD (aH.of (u2 _ _ ht)) qC2 (aD (aH.of (u2 _ _ ha0)) rfl ⟨rfl,_,rfl,?_⟩)⟩
  have kl:(Tr.kids (aA rs) room).length<=40:=Nat.le_trans (Tr.nY (aA rs) room (aA rs).length) (by lia)
  by_cases ek:r0.kind=("one" : Str)
  ·rw[ek]
   refine yO ⟨_,rfl,pk,rfl,⟨_,aX.of Cr⟩,?_⟩
   refine uU Cr (by lia) (Tr.bears (aA rs) gs) (fun o ho Zb hz=>?_) (fun o Zv hz=>⟨_,rfl,hz⟩) (fun p3 hp3=>?_)
   ·exact⟨_,rfl,_,rfl,_,rfl,t,pg,rs,o,gs,rfl,hR.mono (aF.of u2),lg,by have:=(Tr.bC.mp ho).1;lia,u2 _ _ UW,glt,_,rfl,hz⟩
   have u3:=zF hp3 (.lst (aB ((Tr.kids (aA rs) room).filter (Tr.bears (aA rs) gs))))
   have i3:upd H2 p3 (.lst (aB ((Tr.kids (aA rs) room).filter (Tr.bears (aA rs) gs)))) p3=some (.lst (aB ((Tr.kids (aA rs) room).filter (Tr.bears (aA rs) gs)))):=zC
   generalize upd H2 p3 (.lst (aB ((Tr.kids (aA rs) room).filter (Tr.bears (aA rs) gs))))=H3 at u3 i3 ⊢
   have fl:=jh (Tr.bears (aA rs) gs) (Tr.kids (aA rs) room)
   refine⟨_,rfl,p3,pk,_,_,rfl,rfl,i3,u3 _ _ Cr,(by rw[zU,zU,sizeLine_eq];lia),fun p4 O2=>?_⟩
   have u4:=zF O2 (.lst (aB ((Tr.kids (aA rs) room).filter (Tr.bears (aA rs) gs))++aB (Tr.kids (aA rs) room)))
   have i4:upd H3 p4 (.lst (aB ((Tr.kids (aA rs) room).filter (Tr.bears (aA rs) gs))++aB (Tr.kids (aA rs) room))) p4=some (.lst (aB ((Tr.kids (aA rs) room).filter (Tr.bears (aA rs) gs)++Tr.kids (aA rs) room))):=by
    rw[zC]
    unfold aB
    rw[jH]
   generalize upd H3 p4 (.lst (aB ((Tr.kids (aA rs) room).filter (Tr.bears (aA rs) gs))++aB (Tr.kids (aA rs) room)))=H4 at u4 i4 ⊢
   refine⟨_,rfl,p4,_,rfl,aX.of i4,fun p5 vq=>⟨p5,(u3.trans u4).trans (zF vq _),?_,rfl⟩⟩
   rw[zC,tH _ (by decide),<-RL (show iu rs room=false by rw[XR,ek];decide +kernel)]
   unfold aB
   rw[<-List.map_take]
   rfl
  ·refine yN ek ⟨pk,aM.refl _,?_,rfl⟩
   have e2:r0.kind=("all" : Str):=by
    by_cases c:room+1 < rs.length/\(aA rs).getD room 0 < (aA rs).getD (room+1) 0
    ·rw[if_pos c]at hf
     exact hf.resolve_left ek
    ·rw[if_neg c]at hf
     exact absurd hf ep
   rw[Cr,Tr.xJ (by rw[XR,e2];exact decide_eq_true rfl)]
 rintro σ' H3 aP
 refine aK fun G_ g_=>?_
 obtain⟨pi,u3,hpi,rfl⟩:=aP
 refine g_ ?_;clear g_
 have s3:=u2.trans u3
 have nxl:(Tr.next (aA rs) (iu rs) gs room).length<=40:=by
  refine Nat.le_trans (Tr.cL _ _ (Tr.bK (Tr.lV _ _ _ _)) fun k hk=>?_) lg
  have:=Tr.vf hk
  lia
 have nxr:=Tr.lV (aA rs) (iu rs) gs room
 have nxp:∀ k∈Tr.next (aA rs) (iu rs) gs room,k < rs.length/\Tr.par (aA rs) k=some room:=fun k hk=>⟨by have:=Tr.vf hk;lia,Tr.fJ hk⟩
 have XQ:∀ x,Tr.eZ (aA rs) (iu rs) gs (some room) x ↔ ∃ k∈Tr.next (aA rs) (iu rs) gs room,x=k ∨ Tr.eZ (aA rs) (iu rs) gs (some k) x:=fun x=>Tr.gone_some
 generalize Tr.next (aA rs) (iu rs) gs room=nx at hpi nxl nxr nxp XQ
 have fil:∀ {j:Nat} {L:List Nat},InI (aA rs) (iu rs) gs (nx.take j) L->L.length<=40:=fun {j L} h=>by
  refine Nat.le_trans (Tr.cL _ _ (Tr.bK h.1) fun x hx=>?_) lg
  refine aK fun G_ g_=>?_
  obtain⟨k,hk,g⟩:=(h.2 x).mp hx
  refine g_ ?_;clear g_
  have kl:=(nxp k (List.mem_of_mem_take hk)).1
  rcases g with rfl | g
  ·exact kl
  ·have:=g.lt (show 0 < (aA rs).length by lia)
   lia
 refine⟨Nat.zero_le _,fun p0 hp0=>?_⟩
 have v0:=zF hp0 (.lst [])
 have j0:upd H3 p0 (.lst []) p0=some (.lst (aB [])):=zC
 generalize upd H3 p0 (.lst [])=H4 at v0 j0 ⊢
 have s4:=s3.trans v0
 have qBV:=v0 _ _ hpi
 refine⟨fun σ' H' => ∃(pl:Addr)(L:List Nat)(o5:Option V),aM H H'/\H pl=none/\H' pl=some (.lst (aB L))/\InI (aA rs) (iu rs) gs nx L/\σ'=[some (.ref t),some (.int (room:Int)),some (.ref pg),some (.ref pi),some (.ref pl),o5],?_,?_⟩
 ·refine⟨_,rfl,pi,rfl,⟨_,aX.of qBV⟩,?_⟩
  refine dC (K:=K) (a:=pi) (xs:=aB nx) (fun i σ' H' => ∃(pl:Addr)(L:List Nat)(o5:Option V),aM H4 H'/\H pl=none/\H' pl=some (.lst (aB L))/\InI (aA rs) (iu rs) gs (nx.take i) L/\σ'=[some (.ref t),some (.int (room:Int)),some (.ref pg),some (.ref pi),some (.ref pl),o5])
   ⟨p0,[],_,aM.refl _,s3.free hp0,j0,⟨.nil,fun x=>by simp⟩,rfl⟩ (fun i σ' H' _ ⟨_,_,_,z,_⟩=>aX.of (z _ _ qBV)) ?_ ?_
  ·rintro i x σ' H5 hx aP
   refine aK fun G_ g_=>?_
   obtain⟨pl,L,o5,s5,Kd,hpl,hF,rfl⟩:=aP
   obtain⟨hi,rfl⟩:=yR hx
   refine g_ ?_;clear g_
   have hk:=cj hi
   have hkm:=fB hi
   have pW:nx.take (i+1)=nx.take i++[nx[i]]:=by
    rw[gB,hk]
    rfl
   have before:∀ k∈nx.take i,k < nx[i]:=fun k hkt=>by
    refine aK fun G_ g_=>?_
    obtain⟨j,hj,rfl⟩:=List.mem_iff_getElem.mp hkt
    refine g_ ?_;clear g_
    rw[dN]at hj
    rw[List.getElem_take]
    exact List.pairwise_iff_getElem.mp nxr j i (by lia) hi (by lia)
   generalize nx[i]=kid at pW before hkm
   obtain⟨kl,kp⟩:=nxp kid hkm
   have kd:=((Tr.sU good (show kid < (aA rs).length by lia)).mp kp).2
   have l1:=fil hF
   refine⟨_,rfl,_,rfl,zI (by show 1<=1000;decide),fun p6 yr=>?_⟩
   have v6:=zF yr (.lst [V.int (kid:Int)])
   have j6:upd H5 p6 (.lst [V.int (kid:Int)]) p6=some (.lst (aB [kid])):=zC
   generalize upd H5 p6 (.lst [V.int (kid:Int)])=H6 at v6 j6 ⊢
   refine⟨pl,p6,_,_,rfl,rfl,v6 _ _ hpl,j6,(by rw[zU,zU,sizeLine_eq];show _+1<=_;lia),fun p7 XH=>?_⟩
   have v7:=zF XH (.lst (aB L++aB [kid]))
   have j7:upd H6 p7 (.lst (aB L++aB [kid])) p7=some (.lst (aB (L++[kid]))):=by
    rw[zC]
    unfold aB
    rw[jH]
   generalize upd H6 p7 (.lst (aB L++aB [kid]))=H7 at v7 j7 ⊢
   have s57:=v6.trans v7
   have s07:=(s4.trans s5).trans s57
   refine⟨_,rfl,_,rfl,_,rfl,t,pg,rs,_,kid,gs,rfl,rfl,hR.mono (aF.of s07),good,fit,low,lg,kl,by lia,s07 _ _ UW,glt,fun p8 Lk H8 u8 np8 hp8 hFk=>?_⟩
   have l2:Lk.length<=40:=Nat.le_trans (Tr.cL _ _ (Tr.bK hFk.1) fun x hx=>by
    have:=hFk.lt (by lia) x hx
    lia) lg
   refine⟨p7,p8,_,_,rfl,rfl,u8 _ _ j7,hp8,(by rw[zU,zU,dJ,jj,sizeLine_eq];lia),fun p9 hp9=>?_⟩
   refine⟨p9,L++[kid]++Lk,_,(s5.trans s57).trans (u8.trans (zF hp9 _)),(s07.trans u8).free hp9,(by rw[zC];simp only[aB,List.map_append]),?_,rfl⟩
   rw[pW]
   exact hF.step hFk kp fun k hkt=>⟨before k hkt,(nxp k (List.mem_of_mem_take hkt)).2⟩
  ·rintro σ' H5 aP
   refine aK fun G_ g_=>?_
   obtain⟨pl,L,o5,s5,Kd,hpl,hF,rfl⟩:=aP
   refine g_ ?_;clear g_
   rw[zU,List.take_length]at hF
   exact⟨pl,L,_,s4.trans s5,Kd,hpl,hF,rfl⟩
 rintro σ' H5 aP
 refine aK fun G_ g_=>?_
 obtain⟨pl,L,o5,s5,Kd,hpl,hF,rfl⟩:=aP
 refine g_ ?_;clear g_
 exact⟨_,rfl,q pl L H5 s5 Kd hpl ⟨hF.1,fun x=>(hF.2 x).trans (XQ x).symm⟩⟩
theorem Mw{m:Nat}{f:Addr}{fd:FuncData}:aL P w K mg base aq m f fd ["_law_rooms_here","_law_room","_law_goals"] (wN 0):=by
 have no:∀ vs H Q E,¬ wN 0 vs H Q E:=fun vs H Q E h=>by
  refine aK fun G_ g_=>?_
  obtain⟨t,pg,rs,ir,room,gs,_,_,_,_,_,low,_,hroom,xT,_⟩:=h
  refine g_ ?_;clear g_
  have:=low room (by rw[yV];exact hroom)
  lia
 exact⟨fun vs H Q E h=>absurd h (no vs H Q E),fun A outer s H args us vs Q E _ _ _ _ h=>absurd h (no vs H Q E)⟩
theorem Gh{m:Nat}{f gk gb:Addr}{fd dk db:FuncData}(F:cZ K "_law_ins" "_law_ins" n6 f fd)(kJ:∀ n:Nat,aL P w K mg base aq (m+n) gk dk ["_law_rooms_here","_law_room"] rJ)(kE:Binds K dk ["_law_rooms_here","_law_room"] [])(jx:KI K gk)(ju:mg "_law_kids" = some (.ref gk))
  (mK:∀ n:Nat,aL P w K mg base aq (m+n) gb db ["_law_rooms_here","_law_room","_law_goals"] rK) (mH:Binds K db ["_law_rooms_here","_law_room","_law_goals"] []) (lY:KI K gb) (lX:mg "_law_bears" = some (.ref gb))
  (oE:Binds K fd ["_law_rooms_here","_law_room","_law_goals"] []) (nP:mg "_law_ins" = some (.ref f)):∀ n:Nat,aL P w K mg base aq (m+n) f fd ["_law_rooms_here","_law_room","_law_goals"] (wN n)
 | 0=>Mw
 | n+1=>VJ F (kJ n) kE jx ju (mK n) mH lY lX (Gh F kJ kE jx ju mK mH lY lX oE nP n) oE F.kp nP
theorem R1{f gk gb:Addr}{fd dk db:FuncData}(F:cZ K "_law_ins" "_law_ins" n6 f fd)(kJ:aL P w K mg base aq 2 gk dk ["_law_rooms_here","_law_room"] rJ)(kE:Binds K dk ["_law_rooms_here","_law_room"] [])(jx:KI K gk)(ju:mg "_law_kids" = some (.ref gk))
  (mK:aL P w K mg base aq 2 gb db ["_law_rooms_here","_law_room","_law_goals"] rK) (mH:Binds K db ["_law_rooms_here","_law_room","_law_goals"] []) (lY:KI K gb) (lX:mg "_law_bears" = some (.ref gb))
  (oE:Binds K fd ["_law_rooms_here","_law_room","_law_goals"] []) (nP:mg "_law_ins" = some (.ref f)):aL P w K mg base aq 7 f fd ["_law_rooms_here","_law_room","_law_goals"] (wN 5):=by
 exact Gh (m:=2) F (fun n=>kJ.mono (by lia)) kE jx ju (fun n=>mK.mono (by lia)) mH lY lX oE nP 5
theorem xg{K:PySem.W.Frag}{H:Hp}{p:Addr}{L:List Nat}(hp:H p=some (.tup (aB L)))(hl:L.length<=1000)(f:Nat->Bool){cs:St}{tc:TT}{te:TE}{Z:List V->Hp->Prop}
  (h1:∀ o∈L,∀ Zb:Bool->Hp->Prop,Zb (f o) H->tc (some (.int (o:Int)) :: cs) H Zb) (h2:∀(o:Nat)(Zv:V->Hp->Prop),Zv (.int (o:Int)) H->te (some (.int (o:Int)) :: cs) H Zv) (h3:Z (aB (L.filter f)) H):fP (Xc K p) cs tc te H Z:=by
 refine mD (K:=K) (a:=p) (xs:=aB L) (fun i acc H'=>H'=H/\acc=aB ((L.take i).filter f)) ⟨rfl,rfl⟩ (fun i acc H' z=>by rw[z.1];exact aH.of hp) ?_ ?_
 ·rintro i y acc H' hy ⟨rfl,rfl⟩
  obtain⟨hi,rfl⟩:=yR hy
  have hk:=cj hi
  have hm:=fB hi
  generalize L[i]=o at hk hm
  have ll:((L.take i).filter f).length<=1000:=by
   have:=jh f (L.take i)
   rw[dN]at this
   lia
  refine h1 o hm _ ?_
  cases hf:f o with
  | true=>
   refine vG rfl (h2 o _ ⟨?_,rfl,?_⟩)
   ·rw[zU,sizeLine_eq]
    lia
   ·rw[bH hk,hf]
    unfold aB
    rw[jH]
    rfl
  | false=>
   refine uQ rfl ⟨rfl,?_⟩
   rw[bH hk,hf]
   exact (congrArg aB (dM _)).symm
 ·rintro acc H' ⟨rfl,rfl⟩
  rw[zU,tW (bu _)]
  exact h3
def QG:Sp:=fun vs H Q _ => ∃(t ps pl:Addr)(rs:List Rm)(s:S4)(ls:List Nat),vs=[.ref t,.ref ps,.ref pl]/\cD H t rs/\Tr.Good (aA rs)/\rs.length<=40/\dI H ps s/\s.os.length<=40/\(∀ o∈s.os,o < rs.length)/\Tr.jC (aA rs) (Mf rs) (iu rs) s.os/\(∀ r∈ls,r∈s.os)/\(∀ x∈rs,vM.Bd x)/\s.ks.length=rs.length/\H pl=some (.lst (aB ls)) ∧
 ∀(p:Addr)(kv:List V)(H':Hp),aM H H'->H' p=some (.tup kv)->bL H' kv (aj rs s.os ls s.ks)->Q (.ref p) H'
theorem fX:aN ["_law_rooms_here","_law_stand_here","_law_left","_law_kept_here","_law_room","_law_row"] ["_law_rooms_here","_law_stand_here","_law_left"] (aG uF):=⟨rfl,rfl,rfl,by decide +kernel,rfl,by decide +kernel,by decide +kernel⟩
theorem R0{n:Nat}{f g1 g2:Addr}{fd d1 d2:FuncData}(F:cZ K "_law_kept" "_law_kept" uF f fd)
  (kJ:aL P w K mg base aq n g1 d1 ["_law_rooms_here","_law_room"] rJ) (kE:Binds K d1 ["_law_rooms_here","_law_room"] []) (jx:KI K g1) (ju:mg "_law_kids" = some (.ref g1))
  (eV:aL P w K mg base aq n g2 d2 ["_law_rooms_here","_law_one","_law_other"] gG) (eU:Binds K d2 ["_law_rooms_here","_law_one","_law_other"] []) (eG:KI K g2) (eF:mg "_law_lies" = some (.ref g2))
  (aZ:mg "range" = none) (aY:mg "len" = none) (aa:mg "tuple" = none):aL P w K mg base aq (n+1) f fd ["_law_rooms_here","_law_stand_here","_law_left"] QG:=by
 refine F.ok fX (fun vs H Q E h=>?_) (fun cdv A outer s H vs Q E hr h=>?_)
 ·refine aK fun G_ g_=>?_
  obtain⟨t,ps,pl,rs,st,ls,rfl,_⟩:=h
  refine g_ ?_;clear g_
  rfl
 refine aK fun G_ g_=>?_
 obtain⟨t,ps,pl,rs,st,ls,rfl,hR,good,r40,⟨po,pb,pk,kv,a1,a2,a3,a4,a5⟩,Hz,olt,full,sub,kp,Yc,hpl,q⟩:=h
 refine g_ ?_;clear g_
 refine⟨_,(zE (zK (i:=3) fX.nd rfl (Or.inl rfl) (yK zD))
  (zZ (bN PassesOwn.never rfl (bV rfl aZ (zA (zS zN rfl aY PySem.boot_len (zA (pv 0) zD)) zD)) (yJ (i:=4) fX.nd rfl (Or.inr rfl))
  (zE (zK (i:=5) fX.nd rfl (Or.inl rfl) (yB zH (yB zH (pv 1) zB (fun _ _=>rfl)) (pv 4) (fun _ _=>rfl)))
  (zZ (yD (bW (PW.pt (pw_and (zL jL (pv 4) (pv 2) rfl) (yP (zL yG (yB zH (yB zH (pv 0) (pv 4) (fun _ _=>rfl)) zB (fun _ _=>rfl)) zP (zR _))))))
  (zG (zK (i:=5) fX.nd rfl (Or.inl rfl) (yA zX rfl aa PyProof.Rows.boot_tuple (zA (yT (bY:=[(1,"_law_stand_here")]) rfl (show bQ (aG uF) ["_law_rooms_here","_law_stand_here","_law_left","_law_kept_here","_law_room","_law_row"] _ _ _ from ⟨rfl,rfl,by decide +kernel,by decide +kernel,by decide +kernel,by decide +kernel,by decide +kernel⟩) (yM (zJ kJ hr rfl ju jx kE .nil yE (zA (pv 0) (zA (pv 4) zD)))) (fun _ _ _ _ _ _=>bU (zL (r:=rIn K false) jL (pv 0) (yB (r:=fj K) zH (pv 1) zB (fun _ _=>rfl)) rfl)) (fun _ _ _ _ _ _=>(pv 0))) zD))))
  zT)
  (zZ (yD (bW (PW.pt (pw_and (zL jL (pv 4) (pv 2) rfl) (yP (zL yG (yB zH (yB zH (pv 0) (pv 4) (fun _ _=>rfl)) zB (fun _ _=>rfl)) zP (zR _))))))
  (zG (zK (i:=5) fX.nd rfl (Or.inl rfl) (yA zX rfl aa PyProof.Rows.boot_tuple (zA (yT (bY:=[(0,"_law_rooms_here"),(4,"_law_room")]) rfl (show bQ (aG uF) ["_law_rooms_here","_law_stand_here","_law_left","_law_kept_here","_law_room","_law_row"] _ _ _ from ⟨rfl,rfl,by decide +kernel,by decide +kernel,by decide +kernel,by decide +kernel,by decide +kernel⟩) (nJ (yB zH (pv 1) zB (fun _ _=>rfl))) (fun _ _ _ _ _ _=>bU (PW.pt (pw_and (zL (r:=rEq) yG (yB (r:=fj K) zH (yB (r:=fj K) zH (pv 1) (pv 0) (fun _ _=>rfl)) zB (fun _ _=>rfl)) zP (zR _)) (yP (c7 (zJ eV hr rfl eF eG eU .nil yE (zA (pv 1) (zA (pv 0) (zA (pv 2) zD))))))))) (fun _ _ _ _ _ _=>(pv 0))) zD))))
  zT)
  (zG (yI (bz PySem.F.plainAttrs_list PySem.F.slot_list_append PySem.F.type_list_append yH (pv 3) (zA (pv 5) zD))))))))
  (zG (zO (yA zX rfl aa PyProof.Rows.boot_tuple (zA (pv 3) zD)))))),?_⟩
 refine aK fun G_ g_=>?_
 obtain⟨rv,htr,hrs⟩:=id hR
 refine g_ ?_;clear g_
 have X3:=hrs.length
 have lkv:=a5.length
 refine⟨Nat.zero_le _,fun p1 hp1=>?_⟩
 have u1:=zF hp1 (.lst [])
 have i1:upd H p1 (.lst []) p1=some (.lst []):=zC
 generalize upd H p1 (.lst [])=H1 at u1 i1 ⊢
 refine⟨fun σ' H' => ∃(vs:List V),aM H H'/\H' p1=some (.lst vs)/\bL H' vs (aj rs st.os ls st.ks)/\∃ o4 o5:Option V,σ'=[some (.ref t),some (.ref ps),some (.ref pl),some (.ref p1),o4,o5],?_,?_⟩
 ·refine⟨_,rfl,fW rfl (.inr (aH.of (u1 _ _ htr))) ⟨_,rfl,by lia,by lia,?_⟩⟩
  refine bR (fun i σ' H' => ∃(vs:List V),aM H H'/\H' p1=some (.lst vs)/\bL H' vs ((aj rs st.os ls st.ks).take i)/\∃ o4 o5:Option V,σ'=[some (.ref t),some (.ref ps),some (.ref pl),some (.ref p1),o4,o5])
   ⟨[],u1,i1,.nil,none,none,rfl⟩ ?_ ?_
  ·rintro i σ' H3 hi aP
   refine aK fun G_ g_=>?_
   obtain⟨vs,s3,h3,hA,o4,o5,rfl⟩:=aP
   have hi':i < rs.length:=by
    simp at hi
    lia
   obtain⟨vr,hvr,ar,rfl,har⟩:=hrs.get (cj hi')
   refine g_ ?_;clear g_
   have er:=cj hi'
   have ekp:=t7 er
   generalize rs[i]=r at har ekp
   have pQ:oR rv (0+(i:Int))=some (.ref ar):=by
    rw[Int.zero_add]
    exact yQ hvr
   have hik:i < st.ks.length:=by lia
   refine aK fun G_ g_=>?_
   obtain⟨vk,hvk,ak,rfl,hak⟩:=a5.get (cj hik)
   refine g_ ?_;clear g_
   have xU:oR kv (0+(i:Int))=some (.ref ak):=by
    rw[Int.zero_add]
    exact yQ hvk
   have inl:inV (.int (0+(i:Int))) (aB ls)=decide (i∈ls):=by
    rw[Int.zero_add]
    exact vK.t8 i ls
   have due:=Uv (ls:=ls) (ks:=st.ks) full olt sub kp Yc hi'
   refine⟨_,rfl,aD (aH.of (s3 _ _ a1)) rfl ⟨_,rfl,aD (aH.of (s3 _ _ a4)) xU ?_⟩⟩
   -- near
   refine⟨fun σ' H' => ∃ v5:V,aM H3 H'/\tQ H' v5 (if i∈ls/\bM rs i=("near" : Str) then (Tr.kids (aA rs) i).filter (fun k=>decide (k∈st.os)) else st.ks.getD i [])/\σ'=[some (.ref t),some (.ref ps),some (.ref pl),some (.ref p1),some (.int (0+(i:Int))),some v5],?_,?_⟩
   ·refine⟨fun b H'=>H3=H'/\b=decide (i∈ls/\bM rs i=("near" : Str)),?_,?_⟩
    ·refine⟨_,rfl,_,rfl,fW rfl (.inl (aX.of (s3 _ _ hpl))) ⟨rfl,gq ls,_,rfl,cW (fun z=>?_) (fun z=>?_)⟩⟩
     ·have z1:i∈ls:=of_decide_eq_true (inl.symm.trans z)
      refine⟨_,rfl,_,rfl,aD (aH.of (s3 _ _ htr)) pQ (aD (aH.of (s3 _ _ har)) rfl ⟨rfl,_,rfl,rfl,?_⟩)⟩
      rw[T3,<-ekp]
      exact decide_eq_decide.mpr ⟨fun h=>⟨z1,h⟩,fun h=>h.2⟩
     ·have z1:¬ i∈ls:=of_decide_eq_false (inl.symm.trans z)
      exact⟨rfl,(decide_eq_false fun w=>z1 w.1).symm⟩
    rintro b _ ⟨rfl,hb⟩
    refine cW (fun z=>?_) (fun z=>?_)
    ·rw[hb]at z
     have z:=of_decide_eq_true z
     refine⟨_,rfl,_,rfl,t,rs,_,i,rfl,by lia,hR.mono (aF.of s3),good,r40,hi',fun p4 H4 s4 np4 h4=>?_⟩
     have yc:=s3.trans s4
     refine⟨p4,rfl,⟨_,aX.of h4⟩,?_⟩
     have lk:(Tr.kids (aA rs) i).length<=1000:=by
      have:=Tr.cL rs.length _ (Tr.bK (Tr.iD (aA rs) i)) fun x hx=>by
       have:=(Tr.bC.mp hx).1
       rw[yV]at this
       exact this
      lia
     refine uU h4 lk (fun k=>decide (k∈st.os)) (fun o ho Zb hz=>?_) (fun o Zv hz=>⟨_,rfl,hz⟩) (fun p5 vq=>?_)
     ·rw[<-vK.t8]at hz
      exact⟨_,rfl,_,rfl,aD (aH.of (yc _ _ a1)) rfl (fW rfl (.inr (aH.of (yc _ _ a2))) ⟨rfl,gq _,_,rfl,hz⟩)⟩
     refine⟨p5,_,rfl,.inl ⟨aX.of zC,fun p6 yr=>?_⟩⟩
     refine⟨_,(s4.trans (zF vq _)).trans (zF yr _),?_,rfl⟩
     rw[if_pos z]
     exact⟨p6,rfl,zC⟩
    ·rw[hb]at z
     have z:=of_decide_eq_false z
     refine⟨_,aM.refl _,?_,rfl⟩
     rw[if_neg z,jl,cj hik]
     exact⟨ak,rfl,s3 _ _ hak⟩
   rintro _ H4 aP
   refine aK fun G_ g_=>?_
   obtain⟨v5,s4,hv5,rfl⟩:=aP
   refine g_ ?_;clear g_
   have yc:=s3.trans s4
   refine⟨fun σ' H' => ∃ v5:V,aM H3 H'/\tQ H' v5 (uT rs st.os ls st.ks i)/\σ'=[some (.ref t),some (.ref ps),some (.ref pl),some (.ref p1),some (.int (0+(i:Int))),some v5],?_,?_⟩
   ·refine⟨fun b H'=>H4=H'/\b=decide (i∈ls/\bM rs i=("deep" : Str)),?_,?_⟩
    ·refine⟨_,rfl,_,rfl,fW rfl (.inl (aX.of (yc _ _ hpl))) ⟨rfl,gq ls,_,rfl,cW (fun z=>?_) (fun z=>?_)⟩⟩
     ·have z1:i∈ls:=of_decide_eq_true (inl.symm.trans z)
      refine⟨_,rfl,_,rfl,aD (aH.of (yc _ _ htr)) pQ (aD (aH.of (yc _ _ har)) rfl ⟨rfl,_,rfl,rfl,?_⟩)⟩
      rw[T3,<-ekp]
      exact decide_eq_decide.mpr ⟨fun h=>⟨z1,h⟩,fun h=>h.2⟩
     ·have z1:¬ i∈ls:=of_decide_eq_false (inl.symm.trans z)
      exact⟨rfl,(decide_eq_false fun w=>z1 w.1).symm⟩
    rintro b _ ⟨rfl,hb⟩
    refine cW (fun z=>?_) (fun z=>?_)
    ·rw[hb]at z
     have z:=of_decide_eq_true z
     have nz:¬ (i∈ls/\bM rs i=("near" : Str)):=fun w=>by
      rw[z.2]at w
      exact absurd w.2 (by decide +kernel)
     refine⟨_,rfl,aD (aH.of (yc _ _ a1)) rfl ⟨po,rfl,⟨_,aH.of (yc _ _ a2)⟩,?_⟩⟩
     refine xg (yc _ _ a2) (by lia) (fun o=>Qf rs o && Tr.aJ (aA rs) o i) (fun o ho Zb hz=>?_) (fun o Zv hz=>⟨_,rfl,hz⟩) (fun p5 vq=>?_)
     ·have ho':=olt o ho
      refine aK fun G_ g_=>?_
      obtain⟨vo,hvo,ao,rfl,hao⟩:=hrs.get (cj ho')
      refine g_ ?_;clear g_
      have qEA:oR rv (o:Int)=some (.ref ao):=yQ hvo
      have epl:Qf rs o=decide (V.str rs[o].kind=V.str ("plain" : Str)):=by
       unfold Qf
       rw[jF (cj ho'),T3]
      rw[epl]at hz
      refine⟨_,rfl,_,rfl,aD (aH.of (yc _ _ htr)) qEA (aD (aH.of (yc _ _ hao)) rfl ⟨rfl,_,rfl,cW (fun z=>?_) (fun z=>?_)⟩)⟩
      ·rw[z,Bool.true_and]at hz
       exact⟨_,rfl,_,rfl,_,rfl,t,rs,_,_,o,i,rfl,rfl,by lia,hR.mono (aF.of yc),by lia,ho',hi',_,rfl,hz⟩
      ·rw[z,Bool.false_and]at hz
       exact hz
     refine⟨p5,_,rfl,.inl ⟨aX.of zC,fun p6 yr=>?_⟩⟩
     refine⟨_,(s4.trans (zF vq _)).trans (zF yr _),?_,rfl⟩
     unfold uT
     rw[if_neg nz,if_pos z]
     exact⟨p6,rfl,zC⟩
    ·rw[hb]at z
     have z:=of_decide_eq_false z
     refine⟨v5,s4,?_,rfl⟩
     unfold uT
     rw[if_neg z]
     exact hv5
   clear hv5 v5 yc
   rintro _ H5 aP
   refine aK fun G_ g_=>?_
   obtain⟨v5,s5,hv5,rfl⟩:=aP
   refine g_ ?_;clear g_
   have Dm:=s3.trans s5
   have h5:=s5 _ _ h3
   have kl:=aF.lst h5 (.lst (vs++[v5]))
   have lv:=hA.length
   have lf:(aj rs st.os ls st.ks).length=rs.length:=by rw[jG,Yc]
   rw[dN]at lv
   have et:(aj rs st.os ls st.ks).take (i+1)=(aj rs st.os ls st.ks).take i++[uT rs st.os ls st.ks i]:=by
    rw[gB,due]
    rfl
   refine⟨_,rfl,.inl ⟨rfl,_,aX.of h5⟩,_,rfl,p1,_,_,rfl,rfl,h5,zV (by lia),vs++[v5],cB hp1 Dm _,zC,?_,_,_,rfl⟩
   rw[et]
   exact bL.snoc (hA.mono ((aF.of s5).trans kl)) (hv5.mono kl)
  ·rintro σ' H3 aP
   refine aK fun G_ g_=>?_
   obtain⟨vs,s3,h3,hA,o4,o5,rfl⟩:=aP
   refine g_ ?_;clear g_
   have lf:(aj rs st.os ls st.ks).length=rs.length:=by rw[jG,Yc]
   rw[List.take_of_length_le (by simp;lia)]at hA
   exact⟨vs,s3,h3,hA,o4,o5,rfl⟩
 rintro σ' H3 aP
 refine aK fun G_ g_=>?_
 obtain⟨vs,s3,h3,hA,o4,o5,rfl⟩:=aP
 refine g_ ?_;clear g_
 refine⟨_,rfl,p1,_,rfl,.inl ⟨aX.of h3,fun p4 O2=>?_⟩⟩
 have u4:=zF O2 (.tup vs)
 exact q p4 vs _ (s3.trans u4) zC (hA.mono (aF.of u4))
theorem nF{H:Hp}{pr p:Addr}{rv:List V}{es:List En}(e:En)(hr:H pr=some (.lst rv))(x:Al (bw H) rv es)(hp:H p=none) :
  (upd (upd H p (.tup e.row)) pr (.lst (rv++[.ref p]))) pr=some (.lst (rv++[.ref p]))/\Al (bw (upd (upd H p (.tup e.row)) pr (.lst (rv++[.ref p])))) (rv++[.ref p]) (es++[e])/\(∀ b o,H b=some o->b ≠ pr->(upd (upd H p (.tup e.row)) pr (.lst (rv++[.ref p]))) b=some o):=by
 have np:pr ≠ p:=zM hr hp
 have fr:∀ b o,H b=some o->b ≠ pr->(upd (upd H p (.tup e.row)) pr (.lst (rv++[.ref p]))) b=some o:=fun b o e h=>by
  rw[zQ h,zQ (zM e hp)]
  exact e
 refine⟨zC,Al.snoc (x.mono fun _ _ z=>z.mono fun b ys e=>fr b _ e (cC e hr (by intro z;cases z))) ⟨p,rfl,?_⟩,fr⟩
 rw[zQ (Ne.symm np),zC]
theorem Pr(d:Dx):decide (V.str d.way.tx=V.str ("stay" : Str))=iw d.way/\decide (V.str d.way.tx=V.str ("back" : Str))=(match d.way with | .back _=>true | _=>false):=by
 rw[T3,T3]
 cases d.way with
 | stay=>exact⟨by decide +kernel,by decide +kernel⟩
 | to g=>exact⟨(by show decide (("to" : Str) = "stay")=false;decide +kernel),(by show decide (("to" : Str) = "back")=false;decide +kernel)⟩
 | back g=>exact⟨(by show decide (("back" : Str) = "stay")=false;decide +kernel),(by show decide (("back" : Str) = "back")=true;decide +kernel)⟩
structure Lw(H H':Hp)(x y z:Addr)(gR:List En)(st:List Int × List Int × List En):Prop where
 ex:∃ rv:List V,H' z=some (.lst rv)/\Al (bw H') rv (gR++st.2.2)
 ph:H' x=some (.lst (st.1.map V.int))
 pq:H' y=some (.lst (st.2.1.map V.int))
 fr:∀ b o,H b=some o->b ≠ x->b ≠ y->b ≠ z->H' b=some o
theorem Lw.grow{H H' H2:Hp}{ph pq pr:Addr}{gR:List En}{st:List Int × List Int × List En}(x:Lw H H' ph pq pr gR st)(s:aM H' H2):Lw H H2 ph pq pr gR st:=by
 obtain⟨⟨rv,a,b⟩,c,d,e⟩:=x
 exact⟨⟨rv,s _ _ a,b.mono fun _ _ z=>z.mono (aF.of s)⟩,s _ _ c,s _ _ d,fun b o z n1 n2 n3=>s _ _ (e b o z n1 n2 n3)⟩
def xR:Wy->Bool
 | .back _=>true
 | _=>false
theorem SQ{w:Wy}(ks:List (List Nat))(hs:iw w=false):gP w ks=if xR w=true/\ks.getD w.gl [] ≠ [] then ks.getD w.gl [] else [w.gl]:=by
 cases w with
 | stay=>cases hs
 | to g=>
  rw[if_neg (fun z=>by cases z.1)]
  rfl
 | back g=>
  show (if ks.getD g []=[] then [g] else ks.getD g [])=if xR (.back g)=true/\ks.getD g [] ≠ [] then ks.getD g [] else [g]
  by_cases z:ks.getD g []=[]
  ·rw[if_pos z,if_neg (fun w=>w.2 z)]
  ·rw[if_neg z,if_pos ⟨rfl,z⟩]
theorem rH{sz:List Int}{m:Nat}{ss:List Sd}(bx l:List Int)(h:∀ x∈ss,x.2.length<=8)(hs:ss.length<=90):(bB sz m ss bx l).2.2.length<=810:=by
 have:=wK (sz:=sz) (m:=m) (bx:=bx) (l:=l) h
 lia
def Jx:Sp:=fun vs H Q _ => ∃(pc ps pq pr:Addr)(c:ig)(bs:List (Int × Int))(ne k:Nat)(ik:Int)(s:S4)(d:Dx)(yj:List V)(gR:List En),vs=[.ref pc,.ref ps,.int ik,.ref pq,.ref pr]/\ik=(k:Int)/\vM.Wg H pc c bs ne/\vM.Gq c bs ne/\dI H ps s/\pZ c s/\Jw c s.os s.ks/\Tr.jC (aA c.rs) (Mf c.rs) (iu c.rs) s.os/\c.ds[k]? = some d/\H pq=some (.lst (s.l.map V.int))/\H pr=some (.lst yj)/\Al (bw H) yj gR/\gR.length<=800000/\pq ≠ pr ∧
 ∀(ps':Addr)(s':S4)(es:List En)(rv:List V)(H':Hp),vB c k s es s'->dI H' ps' s'->H' pq=some (.lst (s'.l.map V.int))->H' pr=some (.lst rv)->Al (bw H') rv (gR++es)->es.length<=810->(∀ b o,H b=some o->b ≠ pq->b ≠ pr->H' b=some o)->Q (.ref ps') H'
abbrev qJ:Scope:=⟨.function,[("_law_chart_here",.local),("_law_stand_here",.local),("_law_k",.local),("_law_line",.local),("_law_record",.local),("_law_rooms_here",.cell),("_law_door",.local),("_law_sizes",.local),("_law_held",.local),("_law_left",.cell),("_law_gone",.local),("_law_kept_here",.local),("_law_hall_here",.cell),("_law_room",.local),("_law_goals",.local),("_law_opening",.local),("list",.globalImplicit),("_law_hall",.globalImplicit),("reversed",.globalImplicit),("_law_kept",.globalImplicit),("_law_ins",.globalImplicit),("_law_does",.globalImplicit),("sorted",.globalImplicit),("tuple",.globalImplicit)],false,false,(aG pJ).more⟩
theorem Hj:aG pJ=qJ:=by rfl
theorem az:aN ["_law_chart_here","_law_stand_here","_law_k","_law_line","_law_record","_law_rooms_here","_law_door","_law_sizes","_law_held","_law_left","_law_gone","_law_kept_here","_law_hall_here","_law_room","_law_goals","_law_opening"] ["_law_chart_here","_law_stand_here","_law_k","_law_line","_law_record"] qJ:=⟨rfl,rfl,rfl,by decide +kernel,rfl,by decide +kernel,by decide +kernel⟩
theorem Qx{n:Nat}{f g1 g2 g3 g4 g5:Addr}{fd d1 d2 d3 d4 d5:FuncData}(F:cZ K "_law_pass" "_law_pass" pJ f fd)
  (Wd:aL P w K mg base aq n g1 d1 ["_law_rooms_here","_law_one","_law_other"] Jy) (W8:Binds K d1 ["_law_rooms_here","_law_one","_law_other"] []) (Vl:KI K g1) (Vf:mg "_law_hall" = some (.ref g1))
  (eV:aL P w K mg base aq n g2 d2 ["_law_rooms_here","_law_one","_law_other"] gG) (eU:Binds K d2 ["_law_rooms_here","_law_one","_law_other"] []) (eG:KI K g2) (eF:mg "_law_lies" = some (.ref g2))
  (Wc:aL P w K mg base aq n g3 d3 ["_law_rooms_here","_law_stand_here","_law_left"] QG) (W7:Binds K d3 ["_law_rooms_here","_law_stand_here","_law_left"] []) (Vk:KI K g3) (Ve:mg "_law_kept" = some (.ref g3))
  (DY:aL P w K mg base aq n g4 d4 ["_law_rooms_here","_law_room","_law_goals"] (wN 5)) (oE:Binds K d4 ["_law_rooms_here","_law_room","_law_goals"] []) (kl_ins:KI K g4) (nP:mg "_law_ins" = some (.ref g4))
  (Dc:aL P w K mg base aq n g5 d5 ["_law_deeds_here","_law_held","_law_sizes","_law_line","_law_most","_law_record"] QL) (DK:Binds K d5 ["_law_deeds_here","_law_held","_law_sizes","_law_line","_law_most","_law_record"] []) (Cg:KI K g5) (CV:mg "_law_does" = some (.ref g5))
  (dH:mg "list" = none) (Ip:mg "reversed" = none) (dB:mg "sorted" = none) (aa:mg "tuple" = none):aL P w K mg base aq (n+1) f fd ["_law_chart_here","_law_stand_here","_law_k","_law_line","_law_record"] Jx:=by
 refine okS qJ Hj F az (fun vs H Q E h=>?_) (fun cdv A outer s H vs Q E hr h=>?_)
 ·refine aK fun G_ g_=>?_
  obtain⟨pc,ps,pq,pr,c,bs,ne,k,ik,s,d,yj,gR,rfl,_⟩:=h
  refine g_ ?_;clear g_
  rfl
 refine aK fun G_ g_=>?_
 obtain⟨pc,ps,pq,pr,c,bs,ne,k,ik,st,d,yj,gR,rfl,rfl,hX,ok,hS,so,jw,full,hd,hpq,hpr,hA0,le0,U9,q⟩:=h
 refine g_ ?_;clear g_
 refine⟨_,(zE (zK (i:=5) az.nd rfl (Or.inr rfl) (yB zH (pv 0) zB (fun _ _=>rfl)))
  (zE (zK (i:=6) az.nd rfl (Or.inl rfl) (yB zH (yB zH (pv 0) zB (fun _ _=>rfl)) (pv 2) (fun _ _=>rfl)))
  (zE (iJ (i:=7) (bY:=[]) rfl az.nd rfl (Or.inl rfl) (show bQ qJ ["_law_chart_here","_law_stand_here","_law_k","_law_line","_law_record","_law_rooms_here","_law_door","_law_sizes","_law_held","_law_left","_law_gone","_law_kept_here","_law_hall_here","_law_room","_law_goals","_law_opening"] _ _ _ from ⟨rfl,rfl,by decide +kernel,by decide +kernel,by decide +kernel,by decide +kernel,by decide +kernel⟩) (nJ (yB zH (pv 0) zB (fun _ _=>rfl))) (fun _ _ _ _ _ _=>fG) (fun _ _ _ _ _ _=>(yB (r:=fj K) zH (pv 0) zB (fun _ _=>rfl))))
  (zE (zK (i:=8) az.nd rfl (Or.inl rfl) (yA eO rfl dH PyProof.Rows.boot_list (zA (yB zH (pv 1) zB (fun _ _=>rfl)) zD)))
  (zE (yI (bz PySem.F.plainAttrs_list PySem.F.slot_list_append PySem.F.type_list_append yH (pv 4) (zA (zW (zA zP (zA (pv 2) zD))) zD)))
  (zE (zK (i:=9) az.nd rfl (Or.inr rfl) (yK zD))
  (zE (zK (i:=10) az.nd rfl (Or.inl rfl) (yK zD))
  (zE (zK (i:=11) az.nd rfl (Or.inl rfl) (yB zH (pv 1) zB (fun _ _=>rfl)))
  (zZ (yD (zL Ez (yB zH (pv 6) zB (fun _ _=>rfl)) zP (zR _))
  (zE (zK (i:=12) az.nd rfl (Or.inr rfl) (zJ Wd hr rfl Vf Vl W8 .nil yE (zA (pv 5) (zA (yB zH (pv 6) zB (fun _ _=>rfl)) (zA (yB zH (pv 6) zB (fun _ _=>rfl)) zD)))))
  (zE (zK (i:=9) az.nd rfl (Or.inr rfl) (yT (bY:=[(12,"_law_hall_here"),(5,"_law_rooms_here")]) rfl (show bQ qJ ["_law_chart_here","_law_stand_here","_law_k","_law_line","_law_record","_law_rooms_here","_law_door","_law_sizes","_law_held","_law_left","_law_gone","_law_kept_here","_law_hall_here","_law_room","_law_goals","_law_opening"] _ _ _ from ⟨rfl,rfl,by decide +kernel,by decide +kernel,by decide +kernel,by decide +kernel,by decide +kernel⟩) (Y5 rfl Ip ((zA (yB zH (pv 1) zB (fun _ _=>rfl)) zD))) (fun _ _ _ _ _ _=>bU (PW.pt (pw_or (zL CJ (pv 1) fV (zR _)) (pw_or1 (c7 (zJ eV hr rfl eF eG eU .nil yE (zA (pv 2) (zA (pv 0) (zA (pv 1) zD))))))))) (fun _ _ _ _ _ _=>(pv 0))))
  (zE (zK (i:=11) az.nd rfl (Or.inl rfl) (zJ Wc hr rfl Ve Vk W7 .nil yE (zA (pv 5) (zA (pv 1) (zA (pv 9) zD)))))
  (zE (zK (i:=14) az.nd rfl (Or.inl rfl) (yK (zA (yB zH (pv 6) zB (fun _ _=>rfl)) zD)))
  (zZ (yD (bW (PW.pt (pw_and (zL yG (yB zH (pv 6) zB (fun _ _=>rfl)) zP (zR _)) (yP (zL (YC hr.Xe) (yB zH (pv 11) (yB zH (pv 6) zB (fun _ _=>rfl)) (fun _ _=>rfl)) (zW zD) (zR _))))))
  (zG (zK (i:=14) az.nd rfl (Or.inl rfl) (yA eO rfl dH PyProof.Rows.boot_list (zA (yB zH (pv 11) (yB zH (pv 6) zB (fun _ _=>rfl)) (fun _ _=>rfl)) zD))))
  zT)
  (zG (yD (zL CJ (pv 12) fV (zR _))
  (zG (zK (i:=10) az.nd rfl (Or.inl rfl) (yC kj (yK (zA zB zD)) (zJ DY hr rfl nP kl_ins oE .nil yE (zA (pv 5) (zA zB (zA (pv 14) zD)))))))
  (zG (zK (i:=10) az.nd rfl (Or.inl rfl) (zJ DY hr rfl nP kl_ins oE .nil yE (zA (pv 5) (zA (pv 12) (zA (pv 14) zD)))))))))))))
  zT)
  (zZ (bN PassesOwn.never rfl (yM (pv 9)) (yJ (i:=13) az.nd rfl (Or.inl rfl))
  (zE (yI (bz PySem.F.plainAttrs_list PySem.F.slot_list_append PySem.F.type_list_append yH (pv 4) (zA (zW (zA zP (zA (pv 13) zD))) zD)))
  (zG (yI (zJ Dc hr rfl CV Cg DK .nil yE (zA (yB zH (yB zH (pv 5) (pv 13) (fun _ _=>rfl)) zB (fun _ _=>rfl)) (zA (pv 8) (zA (pv 7) (zA (pv 3) (zA (yB zH (pv 0) zB (fun _ _=>rfl)) (zA (pv 4) zD)))))))))))
  (zE (yI (bz PySem.F.plainAttrs_list PySem.F.slot_list_append PySem.F.type_list_append yH (pv 4) (zA (zW (zA zP (zA (pv 2) zD))) zD)))
  (zE (yI (zJ Dc hr rfl CV Cg DK .nil yE (zA (yB zH (pv 6) zB (fun _ _=>rfl)) (zA (pv 8) (zA (pv 7) (zA (pv 3) (zA (yB zH (pv 0) zB (fun _ _=>rfl)) (zA (pv 4) zD))))))))
  (zZ (bN PassesOwn.never rfl (yM (pv 10)) (yJ (i:=13) az.nd rfl (Or.inl rfl))
  (zE (yI (bz PySem.F.plainAttrs_list PySem.F.slot_list_append PySem.F.type_list_append yH (pv 4) (zA (zW (zA zP (zA (pv 13) zD))) zD)))
  (zG (yI (zJ Dc hr rfl CV Cg DK .nil yE (zA (yB zH (yB zH (pv 5) (pv 13) (fun _ _=>rfl)) zB (fun _ _=>rfl)) (zA (pv 8) (zA (pv 7) (zA (pv 3) (zA (yB zH (pv 0) zB (fun _ _=>rfl)) (zA (pv 4) zD)))))))))))
  (zE (zK (i:=15) az.nd rfl (Or.inl rfl) (zS jz rfl dB PyProof.Rows.boot_sorted (zA (yC kj (yT (bY:=[(9,"_law_left")]) rfl (show bQ qJ ["_law_chart_here","_law_stand_here","_law_k","_law_line","_law_record","_law_rooms_here","_law_door","_law_sizes","_law_held","_law_left","_law_gone","_law_kept_here","_law_hall_here","_law_room","_law_goals","_law_opening"] _ _ _ from ⟨rfl,rfl,by decide +kernel,by decide +kernel,by decide +kernel,by decide +kernel,by decide +kernel⟩) (nJ (yB zH (pv 1) zB (fun _ _=>rfl))) (fun _ _ _ _ _ _=>bU (zL (r:=rIn K true) du (pv 0) (pv 1) rfl)) (fun _ _ _ _ _ _=>(pv 0))) (pv 10)) zD)))
  (zG (zO (zW (zA (yA zX rfl aa PyProof.Rows.boot_tuple (zA (pv 15) zD)) (zA (yA zX rfl aa PyProof.Rows.boot_tuple (zA (pv 8) zD)) (zA (pv 11) zD)))))))))))))))))))),?_⟩
 refine aK fun G_ g_=>?_
 obtain⟨pb,pn,t,pd,bv,nv,rmv,dv,h1,h2,h3,h4,h5,h6,h7,h8,h9,h10⟩:=id hX
 obtain⟨po,PX,pk,kv,e1,e2,e3,e4,e5⟩:=id hS
 obtain⟨vd,hvd,a,gv,Sy,rfl,y1,y2,y3⟩:=h10.get hd
 refine g_ ?_;clear g_
 have hat:=yQ hvd
 have ok2:=ok.ok
 have hdm:=List.mem_of_getElem? hd
 have od:=ok2.door d hdm
 have hR:cD H t c.rs:=⟨rmv,h6,h7⟩
 have b6:=ok2.b6
 have r40:=ok2.r40
 have l10:=ok.l10
 have ld:=yV c.rs
 have lsz:c.sz.length=bs.length:=by rw[ok.sz,cM]
 have Hz:=so.Hz
 refine⟨_,rfl,aD (aH.of h1) rfl ?_⟩
 refine⟨_,rfl,aD (aH.of h1) rfl ⟨_,rfl,aD (aH.of h9) hat ?_⟩⟩
 refine⟨_,rfl,aD (aH.of h1) rfl ⟨pb,rfl,⟨_,aH.of h2⟩,?_⟩⟩
 refine W2 h2 h3 (by lia) (·.1) (fun a Zb z=>z) (fun a nm b ha Zv z=>⟨_,rfl,aD (aH.of ha) rfl z⟩) (fun psz Yq=>?_)
 rw[<-ok.sz]
 have u1:=zF Yq (.lst (c.sz.map V.int))
 have i1:upd H psz (.lst (c.sz.map V.int)) psz=some (.lst (c.sz.map V.int)):=zC
 generalize upd H psz (.lst (c.sz.map V.int))=H1 at u1 i1 ⊢
 refine⟨_,rfl,aD (aH.of (u1 _ _ e1)) rfl (fW rfl (.inr (aH.of (u1 _ _ e3))) (fun ph S8=>?_))⟩
 have u2:=zF S8 (.lst (st.bx.map V.int))
 have i2:upd H1 ph (.lst (st.bx.map V.int)) ph=some (.lst (st.bx.map V.int)):=zC
 generalize upd H1 ph (.lst (st.bx.map V.int))=H2 at u2 i2 ⊢
 have Q3:=u1.trans u2
 have nph:H ph=none:=u1.free S8
 have qBU:=Q3 _ _ hpq
 have GF:=Q3 _ _ hpr
 have z1:=u2 _ _ i1
 have nhq:ph ≠ pq:=Ne.symm (zM hpq nph)
 have nhr:ph ≠ pr:=Ne.symm (zM hpr nph)
 have zh:psz ≠ ph:=zM i1 S8
 have zq:psz ≠ pq:=Ne.symm (zM hpq Yq)
 have zr:psz ≠ pr:=Ne.symm (zM hpr Yq)
 have lA0:=hA0.length
 -- the door
 refine⟨_,rfl,.inl ⟨rfl,_,aX.of GF⟩,_,rfl,zI (by show 2<=1000;decide),fun p3 hp3=>?_⟩
 have V5:=nF (.door k) GF (hA0.mono fun _ _ z=>z.mono (aF.of Q3)) hp3
 have Cq:upd H2 p3 (.tup [V.str ("door" : Str),V.int (k:Int)]) pr=some (.lst yj):=by
  rw[zQ (zM GF hp3)]
  exact GF
 refine⟨pr,_,_,rfl,rfl,Cq,(by rw[sizeLine_eq];lia),?_⟩
 change (_:St->Hp->Prop) _ (upd (upd H2 p3 (.tup (En.door k).row)) pr (.lst (yj++[.ref p3])))
 have I3:Lw H2 (upd (upd H2 p3 (.tup (En.door k).row)) pr (.lst (yj++[.ref p3]))) ph pq pr gR (bB c.sz c.lb [(En.door k,[])] st.bx st.l):=⟨⟨_,V5.1,V5.2.1⟩,V5.2.2 _ _ i2 nhr,V5.2.2 _ _ qBU U9,fun b o e _ _ n=>V5.2.2 b o e n⟩
 generalize upd (upd H2 p3 (.tup (En.door k).row)) pr (.lst (yj++[.ref p3]))=H3 at I3 ⊢
 clear V5 Cq
 have qCG:∀ {H':Hp} {sst:List Int × List Int × List En},Lw H2 H' ph pq pr gR sst->aF H2 H':=fun I b ys e=>I.fr _ _ e (cC e i2 (by intro z;cases z)) (cC e qBU (by intro z;cases z)) (cC e GF (by intro z;cases z))
 have k02:=aF.of Q3
 refine⟨Nat.zero_le _,fun p4 O2=>?_⟩
 have u4:=zF O2 (.lst [])
 have i4:upd H3 p4 (.lst []) p4=some (.lst (aB [])):=zC
 have I4:=I3.grow u4
 generalize upd H3 p4 (.lst [])=H4 at u4 i4 I4 ⊢
 refine⟨Nat.zero_le _,fun p5 vq=>?_⟩
 have u5:=zF vq (.lst [])
 have i5:upd H4 p5 (.lst []) p5=some (.lst (aB [])):=zC
 have I5:=I4.grow u5
 have i45:=u5 _ _ i4
 generalize upd H4 p5 (.lst [])=H5 at u5 i5 I5 i45 ⊢
 have k5:=k02.trans (qCG I5)
 refine⟨_,rfl,aD (aH.of (k5 _ _ e1)) rfl ?_⟩
 -- what is left,kept,gone into
 refine⟨fun σ' H' => ∃(pl pe tY:Addr)(ur:List V)(ms:List Nat)(Dn CP:Option V),aM H5 H'/\(H' pl=some (.lst (aB (aO c d st.os)))/\pl ≠ ph/\pl ≠ pq/\pl ≠ pr)/\(H' pe=some (.lst (aB ms))/\pe ≠ ph/\pe ≠ pq/\pe ≠ pr)/\qi c d (eY c d st.os st.ks) ms/\H' tY=some (.tup ur)/\bL H' ur (eY c d st.os st.ks)/\σ'=[some (.ref pc),some (.ref ps),some (.int (k:Int)),some (.ref pq),some (.ref pr),some (.ref t),some (.ref a),some (.ref psz),some (.ref ph),some (.ref pl),some (.ref pe),some (.ref tY),Dn,none,CP,none],?_,?_⟩
 ·refine aK fun G_ g_=>?_
  obtain⟨vX,qDU,xV⟩:=I5.ex
  refine g_ ?_;clear g_
  have fresh:∀ {H':Hp} {p:Addr},aM H5 H'->H' p=none->p ≠ ph/\p ≠ pq/\p ≠ pr:=fun s hp=>⟨(fun z=>by rw[z,s _ _ I5.ph]at hp;cases hp),(fun z=>by rw[z,s _ _ I5.pq]at hp;cases hp),(fun z=>by rw[z,s _ _ qDU]at hp;cases hp)⟩
  have n4:p4 ≠ ph/\p4 ≠ pq/\p4 ≠ pr:=by
   refine aK fun G_ g_=>?_
   obtain⟨M9,Cq,_⟩:=I3.ex
   refine g_ ?_;clear g_
   exact⟨(fun z=>by rw[z,I3.ph]at O2;cases O2),(fun z=>by rw[z,I3.pq]at O2;cases O2),(fun z=>by rw[z,Cq]at O2;cases O2)⟩
  have n5:p5 ≠ ph/\p5 ≠ pq/\p5 ≠ pr:=by
   refine aK fun G_ g_=>?_
   obtain⟨M9,Cq,_⟩:=I4.ex
   refine g_ ?_;clear g_
   exact⟨(fun z=>by rw[z,I4.ph]at vq;cases vq),(fun z=>by rw[z,I4.pq]at vq;cases vq),(fun z=>by rw[z,Cq]at vq;cases vq)⟩
  refine⟨_,rfl,aD (aH.of (k5 _ _ y1)) rfl ⟨rfl,_,rfl,?_⟩⟩
  rw[(Pr d).1]
  refine cW (fun hs=>?_) (fun hs=>?_)
  rotate_left
  ·have hs:iw d.way=true:=by simpa using hs
   have el:aO c d st.os=[]:=if_pos hs
   have ek:eY c d st.os st.ks=st.ks:=if_pos hs
   rw[el,ek]
   exact⟨p4,p5,pk,kv,[],_,_,aM.refl _,⟨i45,n4⟩,⟨i5,n5⟩,(show qi c d st.ks [] from (if_pos hs).mpr rfl),k5 _ _ e4,e5.mono k5,rfl⟩
  have hs:iw d.way=false:=by simpa using hs
  have hs':¬ iw d.way=true:=by rw[hs];decide
  have el:aO c d st.os=vK.gj (aA c.rs) (cG c d) st.os:=if_neg hs'
  have ek:eY c d st.os st.ks=aj c.rs st.os (aO c d st.os) st.ks:=if_neg hs'
  have egv:d.way.gv = .int ((d.way.gl:Nat):Int):=by
   cases hw:d.way with
   | stay=>rw[hw]at hs;cases hs
   | to g=>rfl
   | back g=>rfl
  rw[egv]at y1
  have hR5:=hR.mono k5
  refine⟨_,rfl,_,rfl,aD (aH.of (k5 _ _ y1)) rfl ⟨_,rfl,aD (aH.of (k5 _ _ y1)) rfl ⟨t,c.rs,d.room,d.way.gl,rfl,hR5,r40,od.1,od.2.1,?_⟩⟩⟩
  have eh:Tr.hall (aA c.rs) (vL.isOne c.rs) d.room d.way.gl=cG c d:=rfl
  rw[eh]
  have GJ:∀ u,cG c d=some u->u < c.rs.length:=fun u hu=>by
   have:=tD hu
   have:=od.1
   lia
  refine⟨_,rfl,aD (aH.of (k5 _ _ e1)) rfl ⟨po,_,rfl,aH.of (k5 _ _ e2),?_⟩⟩
  refine JN (k5 _ _ e2) (by lia) (fun o=>vK.under (aA c.rs) o (cG c d)) (fun o ho Zb hz=>?_) (fun o Zv hz=>⟨_,rfl,hz⟩) (fun p6 yr=>?_)
  ·cases hh:cG c d with
   | none=>
    rw[hh]at hz
    exact⟨_,rfl,rfl,_,rfl,vG rfl hz⟩
   | some u=>
    rw[hh]at hz
    exact⟨_,rfl,rfl,_,rfl,uQ rfl ⟨_,rfl,_,rfl,_,rfl,t,c.rs,_,_,o,u,rfl,rfl,rfl,hR5,by lia,so.lt o ho,GJ u hh,_,rfl,hz⟩⟩
  have el2:(st.os.filter fun o=>vK.under (aA c.rs) o (cG c d)).reverse=aO c d st.os:=(if_neg hs').symm
  rw[el2]
  have nf6:=fresh (aM.refl _) yr
  have u6:=zF yr (.lst (aB (aO c d st.os)))
  have i6:upd H5 p6 (.lst (aB (aO c d st.os))) p6=some (.lst (aB (aO c d st.os))):=zC
  generalize upd H5 p6 (.lst (aB (aO c d st.os)))=H6 at u6 i6 ⊢
  have k6:=k5.trans (aF.of u6)
  refine⟨_,rfl,_,rfl,_,rfl,t,ps,p6,c.rs,st,aO c d st.os,rfl,hR.mono k6,ok2.good,r40,hS.mono k6,Hz,so.lt,full,(fun r hr=>Fq hr),ok.kp,jw.len,i6,fun p7 kv7 H7 u7 h7' Yw=>?_⟩
  rw[<-ek]at Yw
  have u57:=u6.trans u7
  have k7:=k6.trans (aF.of u7)
  have jk:=jw.kept ok2 d
  refine⟨_,rfl,aD (aH.of (k7 _ _ y1)) rfl ⟨zI (by show 1<=1000;decide),fun p8 hp8=>?_⟩⟩
  have u8:=zF hp8 (.lst [V.int (d.way.gl:Int)])
  have i8:upd H7 p8 (.lst [V.int (d.way.gl:Int)]) p8=some (.lst (aB [d.way.gl])):=zC
  generalize upd H7 p8 (.lst [V.int (d.way.gl:Int)])=H8 at u8 i8 ⊢
  have u58:=u57.trans u8
  have k8:=k7.trans (aF.of u8)
  have hg:d.way.gl < (eY c d st.os st.ks).length:=by rw[jk.1];exact od.2.1
  refine aK fun G_ g_=>?_
  obtain⟨vk,hvk,ak,rfl,hak⟩:=Yw.get (cj hg)
  refine g_ ?_;clear g_
  have xU:=yQ hvk
  have eg:(eY c d st.os st.ks).getD d.way.gl []=(eY c d st.os st.ks)[d.way.gl]:=by rw[jl,cj hg];rfl
  rw[<-eg]at hak
  have egs:=SQ (eY c d st.os st.ks) hs
  have Pg:=GK d.way (eY c d st.os st.ks) od.2.1 jk.2
  refine⟨fun σ' H' => ∃ pg:Addr,aM H8 H'/\H' pg=some (.lst (aB (gP d.way (eY c d st.os st.ks))))/\σ'=[some (.ref pc),some (.ref ps),some (.int (k:Int)),some (.ref pq),some (.ref pr),some (.ref t),some (.ref a),some (.ref psz),some (.ref ph),some (.ref p6),some (.ref p5),some (.ref p7),some (pV (cG c d)),none,some (.ref pg),none],?_,?_⟩
  ·refine⟨fun b H'=>aM H8 H'/\b=decide (xR d.way=true/\(eY c d st.os st.ks).getD d.way.gl [] ≠ []),?_,?_⟩
   ·refine⟨_,rfl,aD (aH.of (k8 _ _ y1)) rfl ⟨rfl,_,rfl,?_⟩⟩
    rw[(Pr d).2]
    refine cW (fun z=>?_) (fun z=>⟨aM.refl _,(decide_eq_false fun w=>by rw[show xR d.way=false from z]at w;cases w.1).symm⟩)
    refine⟨_,rfl,_,rfl,aD (aH.of (k8 _ _ y1)) rfl (aD (aH.of (u8 _ _ h7')) xU ⟨Nat.zero_le _,fun p9 hp9=>?_⟩)⟩
    have u9:=zF hp9 (.tup [])
    refine⟨ak,p9,_,rfl,rfl,aH.of ((u8.trans u9) _ _ hak),aH.of zC,_,rfl,u9,?_⟩
    rw[show xR d.way=true from z]
    cases (eY c d st.os st.ks).getD d.way.gl [] <;> simp [aB]
   rintro b H9 ⟨u9,hb⟩
   rw[egs]
   refine cW (fun z=>?_) (fun z=>?_)
   ·rw[hb]at z
    have z:=of_decide_eq_true z
    rw[if_pos z]
    have k9:=k8.trans (aF.of u9)
    exact⟨_,rfl,_,rfl,aD (aH.of (k9 _ _ y1)) rfl (aD (aH.of ((u8.trans u9) _ _ h7')) xU (fW rfl (.inr (aH.of ((u8.trans u9) _ _ hak))) (fun xF Cu=>⟨xF,u9.trans (zF Cu _),zC,rfl⟩)))⟩
   ·rw[hb]at z
    have z:=of_decide_eq_false z
    rw[if_neg z]
    exact⟨p8,u9,u9 _ _ i8,rfl⟩
  rintro _ H9 aP
  refine aK fun G_ g_=>?_
  obtain⟨pg,u9,UW,rfl⟩:=aP
  refine g_ ?_;clear g_
  have u59:=u58.trans u9
  have k9:=k5.trans (aF.of u59)
  have u79:=u8.trans u9
  have fin:∀ {H':Hp} {pe:Addr} {ms:List Nat} {CP:Option V},aM H9 H'->H' pe=some (.lst (aB ms))->H9 pe=none->Tr.Ov (aA c.rs) (iu c.rs) (gP d.way (eY c d st.os st.ks)) (cG c d) ms->∃(pl pe' tY:Addr)(ur:List V)(ms:List Nat)(Dn qD5:Option V),aM H5 H'/\(H' pl=some (.lst (aB (aO c d st.os)))/\pl ≠ ph/\pl ≠ pq/\pl ≠ pr)/\(H' pe'=some (.lst (aB ms))/\pe' ≠ ph/\pe' ≠ pq/\pe' ≠ pr)/\qi c d (eY c d st.os st.ks) ms/\H' tY=some (.tup ur)/\bL H' ur (eY c d st.os st.ks)/\([some (.ref pc),some (.ref ps),some (.int (k:Int)),some (.ref pq),some (.ref pr),some (.ref t),some (.ref a),some (.ref psz),some (.ref ph),some (.ref p6),some (.ref pe),some (.ref p7),some (pV (cG c d)),none,CP,none]:St)=[some (.ref pc),some (.ref ps),some (.int (k:Int)),some (.ref pq),some (.ref pr),some (.ref t),some (.ref a),some (.ref psz),some (.ref ph),some (.ref pl),some (.ref pe'),some (.ref tY),Dn,none,qD5,none]:=fun {H' pe ms CP} s h n hi=>by
   have u7x:=u79.trans s
   exact⟨p6,pe,p7,kv7,ms,_,_,u59.trans s,⟨(u7.trans u7x) _ _ i6,nf6⟩,⟨h,fresh u59 n⟩,(if_neg hs').mpr hi,u7x _ _ h7',Yw.mono (aF.of u7x),rfl⟩
  have dn:∀ r,r < c.rs.length->(5:Int)<=(aA c.rs).getD r 0+((5:Nat):Int):=fun r hr=>by
   have:=ok2.good.nonneg r (by rw[ld];exact hr)
   lia
  cases hh:cG c d with
  | none=>
   rw[hh]at fin
   refine⟨_,rfl,rfl,_,rfl,vG rfl ?_⟩
   refine⟨zI (by show 1<=1000;decide),fun xF Cu=>?_⟩
   have Bj:=zF Cu (.lst [V.int 0])
   have X8:upd H9 xF (.lst [V.int 0]) xF=some (.lst (aB [0])):=zC
   generalize upd H9 xF (.lst [V.int 0])=Je at Bj X8 ⊢
   have r0:0 < c.rs.length:=by have:=ok2.good.pos;lia
   refine⟨_,rfl,_,rfl,t,pg,c.rs,_,0,_,rfl,rfl,hR.mono (k9.trans (aF.of Bj)),ok2.good,ok.fit,ok.low,r40,r0,dn 0 r0,Bj _ _ UW,Pg.1,fun Qm L Tq Ly qBE yt hI=>?_⟩
   have lL:L.length<=40:=by
    have:=hI.len (show 0 < (aA c.rs).length by lia)
    lia
   refine⟨xF,Qm,_,_,rfl,rfl,Ly _ _ X8,yt,(by rw[zU,zU,sizeLine_eq];show 1+_<=_;lia),fun p12 qBY=>?_⟩
   have Ud:=zF qBY (.lst (aB [0]++aB L))
   refine fin ((Bj.trans Ly).trans Ud) (ms:=0 :: L) zC ((Bj.trans Ly).free qBY) ⟨List.pairwise_cons.mpr ⟨fun x hx=>((hI.2 x).mp hx).over 0 rfl,hI.1⟩,fun x=>?_⟩
   rw[dG,hI.2 x]
   exact Tr.gone_none.symm
  | some u=>
   rw[hh]at fin
   have ul:=GJ u hh
   refine⟨_,rfl,rfl,_,rfl,uQ rfl ?_⟩
   exact⟨_,rfl,_,rfl,_,rfl,t,pg,c.rs,_,u,_,rfl,rfl,hR.mono k9,ok2.good,ok.fit,ok.low,r40,ul,dn u ul,UW,Pg.1,fun Qm L Tq Ly qBE yt hI=>fin Ly yt qBE hI⟩
 rintro _ H6 aP
 refine aK fun G_ g_=>?_
 obtain⟨pl,pe,tY,ur,ms,Dn,CP,u6,⟨hpl,Kd⟩,⟨hpe,Mv⟩,hms,Vp,Vr,rfl⟩:=aP
 refine g_ ?_;clear g_
 have I6:=I5.grow u6
 have k6:=k5.trans (aF.of u6)
 clear i5 i45 I5
 -- from here on all but held,line and record stands
 have st0:Lw H6 H6 ph pq pr gR (bB c.sz c.lb [(En.door k,[])] st.bx st.l):=⟨I6.ex,I6.ph,I6.pq,fun b o e _ _ _=>e⟩
 have Bk:∀ {H':Hp} {sst:List Int × List Int × List En},Lw H6 H' ph pq pr gR sst->aF H6 H':=fun I b ys e=>I.fr _ _ e (cC e I6.ph (by intro z;cases z)) (cC e I6.pq (by intro z;cases z)) (by
  refine aK fun G_ g_=>?_
  obtain⟨rv,h,_⟩:=I6.ex
  refine g_ ?_;clear g_
  exact cC e h (by intro z;cases z))
 have hz6:H6 psz=some (.lst (c.sz.map V.int)):=I6.fr _ _ z1 zh zq zr
 have ml:=J9 ok2 hms
 have llt:∀ r∈aO c d st.os,r < c.rs.length:=fun r hr=>so.lt r (Fq hr)
 have llen:(aO c d st.os).length<=40:=Nat.le_trans (Ri c d st.os) Hz
 have mlen:ms.length<=40:=Nat.le_trans (Tr.cL _ _ (Tr.bK (GD hms)) ml) r40
 have lbx:=so.bx
 have NZ:=ok2.NZ
 have sl:=so.l
 have deed:∀(x:Sd),x∈au c k d st.os ms->(∀ y∈x.2,y.ok c.sz.length)/\x.2.length<=8:=fun x hx=>by
  unfold au at hx
  rcases cX.mp hx with h | h
  ·rcases cX.mp h with h | h
   ·rcases cX.mp h with h | h
    ·rw[cJ.mp h]
     exact⟨(fun y hy=>by cases hy),Nat.zero_le _⟩
    ·refine aK fun G_ g_=>?_
     obtain⟨r,_,rfl⟩:=fO.mp h
     refine g_ ?_;clear g_
     exact ok2.outs r
   ·rw[cJ.mp h]
    exact od.2.2
  ·refine aK fun G_ g_=>?_
   obtain⟨r,_,rfl⟩:=fO.mp h
   refine g_ ?_;clear g_
   exact ok2.ins r
 have esl:(au c k d st.os ms).length<=82:=by
  unfold au
  rw[dJ,dJ,dJ,cM,cM]
  show 1+_+1+_<=82
  lia
 -- what a mark and its deeds come to
 have does:∀ {ss:List Sd} (x:Sd) {H':Hp} {td:Addr} {dv':List V} {rv:List V} {p:Addr},Lw H6 H' ph pq pr gR (bB c.sz c.lb ss st.bx st.l)->(∀ y∈ss,y.2.length<=8)->ss.length<=89->((∀ y∈x.2,y.ok c.sz.length)/\x.2.length<=8)->H6 td=some (.tup dv')->fc H6 dv' x.2->H' pr=some (.lst rv)->Al (bw H') rv (gR++(bB c.sz c.lb ss st.bx st.l).2.2)->H' p=none →
   ∃(bx l:List Int)(es:List En),let Hn:=upd (upd H' p (.tup x.1.row)) pr (.lst (rv++[.ref p]));Hn td=some (.tup dv')/\fc Hn dv' x.2/\Hn ph=some (.lst (bx.map V.int))/\Hn psz=some (.lst (c.sz.map V.int))/\Hn pq=some (.lst (l.map V.int))/\Hn pr=some (.lst (rv++[.ref p]))/\Al (bw Hn) (rv++[.ref p]) es/\es.length<=900000/\(∀ y∈x.2,y.ok bx.length)/\bx.length=c.sz.length/\bx.length<=6/\l.length<=c.lb ∧
   ∀(qH:List V)(Pk:Hp),Pk pr=some (.lst qH)->Al (bw Pk) qH (es++(kZ c.sz c.lb x.2 bx l).map En.rc)->Pk ph=some (.lst ((oX c.sz x.2 bx).map V.int))->Pk pq=some (.lst ((oW c.lb x.2 l).map V.int))->(∀ b o,Hn b=some o->b ≠ ph->b ≠ pq->b ≠ pr->Pk b=some o)->Lw H6 Pk ph pq pr gR (bB c.sz c.lb (ss++[x]) st.bx st.l):=fun {ss} x {H' td dv' rv p} I h8 ls okx htd hdd hrv hA hp=>by
  have pe:=nF x.1 hrv hA hp
  have kt:=Bk I
  have len:=rH (sz:=c.sz) (m:=c.lb) st.bx st.l h8 (by lia)
  have up:∀ b ys,H' b=some (.tup ys)->upd (upd H' p (.tup x.1.row)) pr (.lst (rv++[.ref p])) b=some (.tup ys):=fun b ys e=>pe.2.2 _ _ e (cC e hrv (by intro z;cases z))
  refine⟨_,_,_,up _ _ (kt _ _ htd),(hdd.mono kt).mono up,pe.2.2 _ _ I.ph nhr,pe.2.2 _ _ (I.fr _ _ hz6 zh zq zr) zr,pe.2.2 _ _ I.pq U9,pe.1,pe.2.1,(by rw[dJ,dJ,jj];lia),(by rw[lG,lbx];exact okx.1),(by rw[lG];exact lbx),(by rw[lG];lia),vO sl,fun qH Pk a1 a2 a3 a4 a5=>?_⟩
  rw[mV]
  refine⟨⟨qH,a1,?_⟩,a3,a4,fun b o e n1 n2 n3=>a5 _ _ (pe.2.2 _ _ (I.fr b o e n1 n2 n3) n3) n1 n2 n3⟩
  show Al (bw Pk) qH (gR++((bB c.sz c.lb ss st.bx st.l).2.2++(x.1 :: (kZ c.sz c.lb x.2 (bB c.sz c.lb ss st.bx st.l).1 (bB c.sz c.lb ss st.bx st.l).2.1).map En.rc)))
  have e:gR++((bB c.sz c.lb ss st.bx st.l).2.2++(x.1 :: (kZ c.sz c.lb x.2 (bB c.sz c.lb ss st.bx st.l).1 (bB c.sz c.lb ss st.bx st.l).2.1).map En.rc))=(gR++(bB c.sz c.lb ss st.bx st.l).2.2)++[x.1]++(kZ c.sz c.lb x.2 (bB c.sz c.lb ss st.bx st.l).1 (bB c.sz c.lb ss st.bx st.l).2.1).map En.rc:=by simp
  rw[e]
  exact a2
 have rm:∀ r,r < c.rs.length->∃(ar:Addr)(x:Rm),oR rmv (r:Int)=some (.ref ar)/\H ar=some (.tup [.str x.nm,.str x.kind,.int x.depth,.str x.keeps,.str x.Yd,x.ins,x.outs])/\qj H x.ins (c.di r)/\qj H x.outs (c.dO r):=fun r hr=>by
  refine aK fun G_ g_=>?_
  obtain⟨v,hv,ar,rfl,har⟩:=h7.get (cj hr)
  refine g_ ?_;clear g_
  exact⟨ar,_,yQ hv,har,h8 r _ (cj hr)⟩
 have MJ:∀ {ss:List Sd},(∀ y∈ss,y∈au c k d st.os ms)->∀ y∈ss,y.2.length<=8:=fun h y hy=>(deed y (h y hy)).2
 -- Z0 out
 refine⟨fun σ' H' => ∃ Pa:Option V,Lw H6 H' ph pq pr gR (bB c.sz c.lb ([(En.door k,[])]++(aO c d st.os).map fun r=>(En.out r,c.dO r)) st.bx st.l)/\σ'=[some (.ref pc),some (.ref ps),some (.int (k:Int)),some (.ref pq),some (.ref pr),some (.ref t),some (.ref a),some (.ref psz),some (.ref ph),some (.ref pl),some (.ref pe),some (.ref tY),Dn,Pa,CP,none],?_,?_⟩
 ·refine⟨_,rfl,pl,rfl,⟨_,aX.of hpl⟩,?_⟩
  refine dC (K:=K) (a:=pl) (xs:=aB (aO c d st.os)) (fun i σ' H' => ∃ Pa:Option V,Lw H6 H' ph pq pr gR (bB c.sz c.lb ([(En.door k,[])]++((aO c d st.os).take i).map fun r=>(En.out r,c.dO r)) st.bx st.l)/\σ'=[some (.ref pc),some (.ref ps),some (.int (k:Int)),some (.ref pq),some (.ref pr),some (.ref t),some (.ref a),some (.ref psz),some (.ref ph),some (.ref pl),some (.ref pe),some (.ref tY),Dn,Pa,CP,none])
   ⟨none,st0,rfl⟩ (fun i σ' H' _ ⟨_,I,_⟩=>aX.of (I.fr _ _ hpl Kd.1 Kd.2.1 Kd.2.2)) ?_ ?_
  ·rintro i x σ' H7 hx aP
   refine aK fun G_ g_=>?_
   obtain⟨Pa,I,rfl⟩:=aP
   obtain⟨hi,rfl⟩:=yR hx
   refine g_ ?_;clear g_
   have hk:=cj hi
   have hm:=fB hi
   have pW:(aO c d st.os).take (i+1)=(aO c d st.os).take i++[(aO c d st.os)[i]]:=by
    rw[gB,hk]
    rfl
   rw[pW,jH,<-List.append_assoc]
   generalize (aO c d st.os)[i]=r at hm
   refine aK fun G_ g_=>?_
   obtain⟨rv,hrv,hA⟩:=I.ex
   refine g_ ?_;clear g_
   have lA:=hA.length
   have sub:∀ y∈[(En.door k,[])]++((aO c d st.os).take i).map (fun r=>(En.out r,c.dO r)),y∈au c k d st.os ms:=fun y hy=>by
    unfold au
    refine List.mem_append_left _ (List.mem_append_left _ ?_)
    rcases cX.mp hy with z | z
    ·exact List.mem_append_left _ z
    ·refine aK fun G_ g_=>?_
     obtain⟨q,hq,rfl⟩:=fO.mp z
     refine g_ ?_;clear g_
     exact List.mem_append_right _ (fO.mpr ⟨q,List.mem_of_mem_take hq,rfl⟩)
   have len:=rH (sz:=c.sz) (m:=c.lb) st.bx st.l (MJ sub) (by rw[dJ,cM,dN];show 1+_<=90;lia)
   rw[dJ]at lA
   refine⟨_,rfl,.inl ⟨rfl,_,aX.of hrv⟩,_,rfl,zI (by show 2<=1000;decide),fun p8 hp8=>?_⟩
   refine⟨pr,_,_,rfl,rfl,(by rw[zQ (zM hrv hp8)];exact hrv),(by rw[sizeLine_eq];lia),?_⟩
   refine aK fun G_ g_=>?_
   obtain⟨ar,xr,pQ,har,_,td,dv',etd,htd,hdd⟩:=rm r (llt r hm)
   refine g_ ?_;clear g_
   rw[etd]at har
   have pe8:=nF (.out r) hrv hA hp8
   have kx:aF H (upd (upd H7 p8 (.tup (En.out r).row)) pr (.lst (rv++[.ref p8]))):=fun b ys e=>pe8.2.2 _ _ (Bk I _ _ (k6 _ _ e)) (cC (Bk I _ _ (k6 _ _ e)) hrv (by intro z;cases z))
   refine aK fun G_ g_=>?_
   obtain⟨bx1,l1,es1,f1,f2,f3,f4,f5,f6,f7,f8,f9,f10,f11,Vv,f13⟩:=does (En.out r,c.dO r) I (MJ sub) (by rw[dJ,cM,dN];show 1+_<=89;lia) (ok2.outs r) (k6 _ _ htd) (hdd.mono k6) hrv hA hp8
   refine g_ ?_;clear g_
   exact⟨_,rfl,_,rfl,aD (aH.of (kx _ _ h6)) pQ (aD (aH.of (kx _ _ har)) rfl ⟨_,rfl,_,rfl,_,rfl,_,rfl,aD (aH.of (kx _ _ h1)) rfl ⟨_,rfl,td,ph,psz,pq,pr,dv',_,c.dO r,bx1,c.sz,l1,es1,c.lb,rfl,f1,f2,f3,f4,f5,f6,f7,f8,nhq,nhr,U9,zh,zq,zr,f9,(ok2.outs r).2,f10,f11,ok2.pos,Vv,NZ,fun qH Pk a1 a2 a3 a4 a5=>⟨_,f13 qH Pk a1 a2 a3 a4 a5,rfl⟩⟩⟩)⟩
  ·rintro σ' H7 aP
   refine aK fun G_ g_=>?_
   obtain⟨Pa,I,rfl⟩:=aP
   refine g_ ?_;clear g_
   rw[zU,List.take_length]at I
   exact⟨_,I,rfl⟩
 rintro _ H7 aP
 refine aK fun G_ g_=>?_
 obtain⟨Pa,I7,rfl⟩:=aP
 refine g_ ?_;clear g_
 have subB:∀ y∈[(En.door k,[])]++(aO c d st.os).map (fun r=>(En.out r,c.dO r)),y∈au c k d st.os ms:=fun y hy=>by
  unfold au
  exact List.mem_append_left _ (List.mem_append_left _ hy)
 have lB:([(En.door k,[])]++(aO c d st.os).map fun r=>(En.out r,c.dO r)).length<=42:=by
  rw[dJ,cM]
  show 1+_<=42
  lia
 -- through
 refine aK fun G_ g_=>?_
 obtain⟨rv7,O1,hA7⟩:=I7.ex
 refine g_ ?_;clear g_
 have lA7:=hA7.length
 have len7:=rH (sz:=c.sz) (m:=c.lb) st.bx st.l (MJ subB) (by lia)
 rw[dJ]at lA7
 refine⟨_,rfl,.inl ⟨rfl,_,aX.of O1⟩,_,rfl,zI (by show 2<=1000;decide),fun p8 hp8=>?_⟩
 refine⟨pr,_,_,rfl,rfl,(by rw[zQ (zM O1 hp8)];exact O1),(by rw[sizeLine_eq];lia),?_⟩
 refine aK fun G_ g_=>?_
 obtain⟨td,dvd,rfl,htd,hdd⟩:=y3
 have pe8:=nF (.thr k) O1 hA7 hp8
 have kx:aF H (upd (upd H7 p8 (.tup (En.thr k).row)) pr (.lst (rv7++[.ref p8]))):=fun b ys e=>pe8.2.2 _ _ (Bk I7 _ _ (k6 _ _ e)) (cC (Bk I7 _ _ (k6 _ _ e)) O1 (by intro z;cases z))
 obtain⟨bx1,l1,es1,f1,f2,f3,f4,f5,f6,f7,f8,f9,f10,f11,Vv,f13⟩:=does (En.thr k,d.dd) I7 (MJ subB) (by lia) od.2.2 (k6 _ _ htd) (hdd.mono k6) O1 hA7 hp8
 refine g_ ?_;clear g_
 refine⟨_,rfl,aD (aH.of (kx _ _ y1)) rfl ⟨_,rfl,_,rfl,_,rfl,_,rfl,aD (aH.of (kx _ _ h1)) rfl ⟨_,rfl,td,ph,psz,pq,pr,dvd,_,d.dd,bx1,c.sz,l1,es1,c.lb,rfl,f1,f2,f3,f4,f5,f6,f7,f8,nhq,nhr,U9,zh,zq,zr,f9,od.2.2.2,f10,f11,ok2.pos,Vv,NZ,fun qH H8 a1 a2 a3 a4 a5=>?_⟩⟩⟩
 have I8:=f13 qH H8 a1 a2 a3 a4 a5
 clear pe8 kx f1 f2 f3 f4 f5 f6 f7 f8 f9 f10 f11 Vv f13 a1 a2 a3 a4 a5
 -- Z0 in
 refine⟨fun σ' H' => ∃ Pa:Option V,Lw H6 H' ph pq pr gR (bB c.sz c.lb (au c k d st.os ms) st.bx st.l)/\σ'=[some (.ref pc),some (.ref ps),some (.int (k:Int)),some (.ref pq),some (.ref pr),some (.ref t),some (.ref a),some (.ref psz),some (.ref ph),some (.ref pl),some (.ref pe),some (.ref tY),Dn,Pa,CP,none],?_,?_⟩
 ·have qDX:=I8.fr _ _ hpe Mv.1 Mv.2.1 Mv.2.2
  refine⟨_,rfl,pe,rfl,⟨_,aX.of qDX⟩,?_⟩
  refine dC (K:=K) (a:=pe) (xs:=aB ms) (fun i σ' H' => ∃ Pa:Option V,Lw H6 H' ph pq pr gR (bB c.sz c.lb (([(En.door k,[])]++((aO c d st.os).map fun r=>(En.out r,c.dO r))++[(En.thr k,d.dd)])++(ms.take i).map fun r=>(En.inn r,c.di r)) st.bx st.l)/\σ'=[some (.ref pc),some (.ref ps),some (.int (k:Int)),some (.ref pq),some (.ref pr),some (.ref t),some (.ref a),some (.ref psz),some (.ref ph),some (.ref pl),some (.ref pe),some (.ref tY),Dn,Pa,CP,none])
   ⟨_,by show Lw H6 H8 ph pq pr gR (bB c.sz c.lb (([(En.door k,[])]++((aO c d st.os).map fun r=>(En.out r,c.dO r))++[(En.thr k,d.dd)])++[]) st.bx st.l);rw[dM];exact I8,rfl⟩ (fun i σ' H' _ ⟨_,I,_⟩=>aX.of (I.fr _ _ hpe Mv.1 Mv.2.1 Mv.2.2)) ?_ ?_
  ·rintro i x σ' H9 hx aP
   refine aK fun G_ g_=>?_
   obtain⟨Pa,I,rfl⟩:=aP
   obtain⟨hi,rfl⟩:=yR hx
   refine g_ ?_;clear g_
   have hk:=cj hi
   have hm:=fB hi
   have pW:ms.take (i+1)=ms.take i++[ms[i]]:=by
    rw[gB,hk]
    rfl
   rw[pW,jH,<-List.append_assoc]
   generalize ms[i]=r at hm
   refine aK fun G_ g_=>?_
   obtain⟨rv,hrv,hA⟩:=I.ex
   refine g_ ?_;clear g_
   have lA:=hA.length
   have sub:∀ y∈([(En.door k,[])]++((aO c d st.os).map fun r=>(En.out r,c.dO r))++[(En.thr k,d.dd)])++(ms.take i).map (fun r=>(En.inn r,c.di r)),y∈au c k d st.os ms:=fun y hy=>by
    unfold au
    rcases cX.mp hy with z | z
    ·exact List.mem_append_left _ z
    ·refine aK fun G_ g_=>?_
     obtain⟨q,hq,rfl⟩:=fO.mp z
     refine g_ ?_;clear g_
     exact List.mem_append_right _ (fO.mpr ⟨q,List.mem_of_mem_take hq,rfl⟩)
   have lI:(([(En.door k,[])]++((aO c d st.os).map fun r=>(En.out r,c.dO r))++[(En.thr k,d.dd)])++(ms.take i).map (fun r=>(En.inn r,c.di r))).length<=82:=by
    rw[dJ,dJ,dJ,cM,cM,dN]
    show 1+_+1+_<=82
    lia
   have len:=rH (sz:=c.sz) (m:=c.lb) st.bx st.l (MJ sub) (by lia)
   rw[dJ]at lA
   refine⟨_,rfl,.inl ⟨rfl,_,aX.of hrv⟩,_,rfl,zI (by show 2<=1000;decide),fun p8 hp8=>?_⟩
   refine⟨pr,_,_,rfl,rfl,(by rw[zQ (zM hrv hp8)];exact hrv),(by rw[sizeLine_eq];lia),?_⟩
   refine aK fun G_ g_=>?_
   obtain⟨ar,xr,pQ,har,⟨td,dv',etd,htd,hdd⟩,_⟩:=rm r (ml r hm)
   refine g_ ?_;clear g_
   rw[etd]at har
   have pe8:=nF (.inn r) hrv hA hp8
   have kx:aF H (upd (upd H9 p8 (.tup (En.inn r).row)) pr (.lst (rv++[.ref p8]))):=fun b ys e=>pe8.2.2 _ _ (Bk I _ _ (k6 _ _ e)) (cC (Bk I _ _ (k6 _ _ e)) hrv (by intro z;cases z))
   refine aK fun G_ g_=>?_
   obtain⟨bx1,l1,es1,f1,f2,f3,f4,f5,f6,f7,f8,f9,f10,f11,Vv,f13⟩:=does (En.inn r,c.di r) I (MJ sub) (by lia) (ok2.ins r) (k6 _ _ htd) (hdd.mono k6) hrv hA hp8
   refine g_ ?_;clear g_
   exact⟨_,rfl,_,rfl,aD (aH.of (kx _ _ h6)) pQ (aD (aH.of (kx _ _ har)) rfl ⟨_,rfl,_,rfl,_,rfl,_,rfl,aD (aH.of (kx _ _ h1)) rfl ⟨_,rfl,td,ph,psz,pq,pr,dv',_,c.di r,bx1,c.sz,l1,es1,c.lb,rfl,f1,f2,f3,f4,f5,f6,f7,f8,nhq,nhr,U9,zh,zq,zr,f9,(ok2.ins r).2,f10,f11,ok2.pos,Vv,NZ,fun qH Pk a1 a2 a3 a4 a5=>⟨_,f13 qH Pk a1 a2 a3 a4 a5,rfl⟩⟩⟩)⟩
  ·rintro σ' H9 aP
   refine aK fun G_ g_=>?_
   obtain⟨Pa,I,rfl⟩:=aP
   refine g_ ?_;clear g_
   rw[zU,List.take_length]at I
   exact⟨_,I,rfl⟩
 rintro _ H9 aP
 refine aK fun G_ g_=>?_
 obtain⟨o14',I9,rfl⟩:=aP
 refine g_ ?_;clear g_
 have k69:=Bk I9
 have k9:=k6.trans k69
 -- the opening
 refine⟨_,rfl,aD (aH.of (k9 _ _ e1)) rfl ⟨po,rfl,⟨_,aH.of (k9 _ _ e2)⟩,?_⟩⟩
 refine xg (k9 _ _ e2) (by lia) (fun o:Nat => !inV (.int (o:Int)) (aB (aO c d st.os))) (fun o ho Zb hz=>?_) (fun o Zv hz=>⟨_,rfl,hz⟩) (fun xF Cu=>?_)
 ·exact⟨_,rfl,_,rfl,fW rfl (.inl (aX.of (I9.fr _ _ hpl Kd.1 Kd.2.1 Kd.2.2))) ⟨rfl,gq _,_,rfl,hz⟩⟩
 have est:(st.os.filter fun o:Nat => !inV (.int (o:Int)) (aB (aO c d st.os)))=bT c d st.os:=rfl
 rw[est]
 have Bj:=zF Cu (.lst (aB (bT c d st.os)))
 have X8:upd H9 xF (.lst (aB (bT c d st.os))) xF=some (.lst (aB (bT c d st.os))):=zC
 have I10:=I9.grow Bj
 generalize upd H9 xF (.lst (aB (bT c d st.os)))=Je at Bj X8 I10 ⊢
 refine aK fun G_ g_=>?_
 obtain⟨nd,l40,_⟩:=(((wide ok2).may st.os st.ks jw d hdm).2.2 ms hms)
 refine g_ ?_;clear g_
 have qBW:=I10.fr _ _ hpe Mv.1 Mv.2.1 Mv.2.2
 rw[dJ]at l40
 refine⟨_,rfl,xF,pe,_,_,rfl,rfl,X8,qBW,(by rw[zU,zU,sizeLine_eq];lia),fun Qm yt=>?_⟩
 have Ly:=zF yt (.lst (aB (bT c d st.os)++aB ms))
 have i11:upd Je Qm (.lst (aB (bT c d st.os)++aB ms)) Qm=some (.lst (((bT c d st.os++ms).map fun j:Nat=>(j:Int)).map V.int)):=by
  rw[zC,<-cO,jH]
  rfl
 have I11:=I10.grow Ly
 generalize upd Je Qm (.lst (aB (bT c d st.os)++aB ms))=Tq at Ly i11 I11 ⊢
 refine⟨Qm,(bT c d st.os++ms).map fun j:Nat=>(j:Int),rfl,.inl (aX.of i11),(by rw[cM,dJ];lia),fun Uy rs' Yr perm M6=>?_⟩
 refine aK fun G_ g_=>?_
 obtain⟨os',rfl,rise,hpm⟩:=jo perm M6 nd
 refine g_ ?_;clear g_
 have Ud:=zF Yr (.lst ((os'.map fun j:Nat=>(j:Int)).map V.int))
 have i12:upd Tq Uy (.lst ((os'.map fun j:Nat=>(j:Int)).map V.int)) Uy=some (.lst (aB os')):=by
  rw[zC,<-cO]
  rfl
 have I12:=I11.grow Ud
 generalize upd Tq Uy (.lst ((os'.map fun j:Nat=>(j:Int)).map V.int))=Pn at Ud i12 I12 ⊢
 refine⟨_,rfl,Uy,_,rfl,.inl ⟨aX.of i12,fun Ew S9=>?_⟩⟩
 have Q0:=zF S9 (.tup (aB os'))
 have i13:upd Pn Ew (.tup (aB os')) Ew=some (.tup (aB os')):=zC
 have I13:=I12.grow Q0
 generalize upd Pn Ew (.tup (aB os'))=Wa at Q0 i13 I13 ⊢
 refine⟨_,rfl,ph,_,rfl,.inl ⟨aX.of I13.ph,fun U8 Yv=>?_⟩⟩
 have u14:=zF Yv (.tup ((bB c.sz c.lb (au c k d st.os ms) st.bx st.l).1.map V.int))
 have i14:upd Wa U8 (.tup ((bB c.sz c.lb (au c k d st.os ms) st.bx st.l).1.map V.int)) U8=some (.tup ((bB c.sz c.lb (au c k d st.os ms) st.bx st.l).1.map V.int)):=zC
 have I14:=I13.grow u14
 generalize upd Wa U8 (.tup ((bB c.sz c.lb (au c k d st.os ms) st.bx st.l).1.map V.int))=Tp at u14 i14 I14 ⊢
 refine⟨_,rfl,zI (by show 3<=1000;decide),fun p15 Yu=>?_⟩
 have u15:=zF Yu (.tup [.ref Ew,.ref U8,.ref tY])
 have I15:=I14.grow u15
 have i15:upd Tp p15 (.tup [.ref Ew,.ref U8,.ref tY]) p15=some (.tup [.ref Ew,.ref U8,.ref tY]):=zC
 generalize upd Tp p15 (.tup [.ref Ew,.ref U8,.ref tY])=H15 at u15 I15 i15 ⊢
 refine aK fun G_ g_=>?_
 obtain⟨rvF,hrF,hAF⟩:=I15.ex
 refine g_ ?_;clear g_
 have kF:=Bk I15
 refine q p15 ⟨os',(bB c.sz c.lb (au c k d st.os ms) st.bx st.l).1,eY c d st.os st.ks,(bB c.sz c.lb (au c k d st.os ms) st.bx st.l).2.1⟩ (bB c.sz c.lb (au c k d st.os ms) st.bx st.l).2.2 rvF H15 ⟨d,ms,hd,hms,hpm,rise,rfl,rfl⟩ ⟨Ew,U8,tY,ur,i15,(u14.trans u15) _ _ i13,u15 _ _ i14,kF _ _ Vp,Vr.mono kF⟩ I15.pq hrF hAF (rH _ _ (fun y hy=>(deed y hy).2) (by lia)) fun b o e n1 n2=>?_
 have nb:b ≠ ph:=zM e nph
 exact I15.fr _ _ (I6.fr _ _ (Q3 _ _ e) nb n1 n2) nb n1 n2
end
end Ru
namespace Ru
open PySem L2 mR oU tZ Ds yd jA
open mO (Al)
theorem jU(a b:List En):outs (a++b)=outs a++outs b:=by
 unfold outs
 rw[List.filterMap_append]
theorem Ex:∀ rs:List Rc,outs (rs.map En.rc)=[]
 | []=>rfl
 | r :: rs=>Ex rs
theorem Aj(sz:List Int)(m:Nat):∀(ss:List Sd)(s:List Int × List Int × List En),outs (ss.foldl (sstep sz m) s).2.2=outs s.2.2++outs (ss.map (·.1))
 | [],s=>(dM _).symm
 | x :: ss,s=>by
  have h:outs (sstep sz m s x).2.2=outs s.2.2++outs [x.1]:=by
   show outs (s.2.2++([x.1]++(kZ sz m x.2 s.1 s.2.1).map En.rc))=_
   rw[jU,jU,Ex,dM]
  rw[List.foldl_cons,Aj sz m ss,h,List.append_assoc,<-jU]
  rfl
theorem Ah:∀ ls:List Nat,outs (ls.map En.out)=ls
 | []=>rfl
 | r :: ls=>by
  show r :: outs (ls.map En.out)=_
  rw[Ah ls]
theorem Ai:∀ ls:List Nat,outs (ls.map En.inn)=[]
 | []=>rfl
 | r :: ls=>Ai ls
theorem Hk(c:ig)(m k:Nat)(d:Dx)(os ms:List Nat)(bx l:List Int):outs (bB c.sz m (au c k d os ms) bx l).2.2=aO c d os:=by
 unfold bB
 rw[Aj]
 have e:(au c k d os ms).map (·.1)=([En.door k]++(aO c d os).map En.out++[En.thr k])++ms.map En.inn:=by
  unfold au
  rw[jH,jH,jH,List.map_map,List.map_map]
  rfl
 rw[e,jU,jU,jU,Ah,Ai,dM]
 show []++([]++aO c d os++[])=_
 rw[dM,List.nil_append,List.nil_append]
theorem JM{K:PySem.W.Frag}{H:Hp}{pr:Addr}{rv:List V}{es:List En}(hpr:H pr=some (.lst rv))(hA:Al (bw H) rv es)(hz:es.length<=100000){cs:St}{tc:TT}{te:TE}{Z:List V->Hp->Prop}
  (h1:∀(a:Addr)(s':Str)(x':V)(r':List V),H a=some (.tup (.str s' :: x' :: r'))->∀ Zb:Bool->Hp->Prop,Zb (decide (V.str s'=V.str ("out" : Str))) H->tc (some (.ref a) :: cs) H Zb)
  (h2:∀(a:Addr)(s':Str)(x':V)(r':List V),H a=some (.tup (.str s' :: x' :: r'))->∀ Zv:V->Hp->Prop,Zv x' H->te (some (.ref a) :: cs) H Zv)
  (h3:Z (aB (outs es)) H):fP (WY K pr) cs tc te H Z:=by
 have lr:=hA.length
 refine yS (K:=K) (a:=pr) (xs:=rv) (fun i acc H'=>H'=H/\acc.length<=i/\acc=aB (outs (es.take i))) ⟨rfl,bu _,rfl⟩ (fun i acc H' z=>by rw[z.1];exact aX.of hpr) ?_ ?_
 ·rintro i x acc H' hx ⟨rfl,la,rfl⟩
  have hi:i < es.length:=by
   have:=(yZ.mp hx).1
   lia
  have hk:=cj hi
  obtain⟨v,hv,a,rfl,ha⟩:=hA.get hk
  rw[hv]at hx
  obtain rfl:=oN hx
  have pW:es.take (i+1)=es.take i++[es[i]]:=by
   rw[gB,hk]
   rfl
  obtain⟨s',x',r',e1,e2,e3⟩:=Em es[i]
  rw[e1]at ha
  refine h1 a s' x' r' ha _ ?_
  cases c:decide (V.str s'=V.str ("out" : Str)) with
  | true=>
   obtain⟨k,ek,rfl⟩:=e2 c
   refine vG rfl (h2 a s' _ r' ha _ ⟨by rw[sizeLine_eq];lia,rfl,by rw[dJ,jj];lia,?_⟩)
   rw[pW,qK,ek]
   unfold aB
   rw[jH]
   rfl
  | false=>
   refine uQ rfl ⟨rfl,by lia,?_⟩
   rw[pW,qK]
   have e3:=e3 c
   generalize es[i]=e at e3
   cases e with
   | out k=>exact absurd rfl (e3 k)
   | rc r=>rw[dM]
   | inn k=>rw[dM]
   | door k=>rw[dM]
   | thr k=>rw[dM]
   | take k=>rw[dM]
 ·rintro acc H' ⟨rfl,_,rfl⟩
  rw[tW (by lia)]
  exact h3
theorem WN{α:Type}{R:V->α->Prop}{vs:List V}{rs:List α}(x:Al R vs rs):∀ k:Nat,Al R (vs.drop k) (rs.drop k):=by
 induction x with
 | nil=>intro k;rw[List.drop_nil,List.drop_nil];exact .nil
 | cons h t ih=>
  intro k
  cases k with
  | zero=>exact .cons h t
  | succ k=>exact ih k
theorem T9(xs:List V){k:Nat}(h:k<=xs.length):lu xs (some (k:Int)) none=xs.drop k:=by
 show (xs.drop (if (k:Int) < 0 then ((k:Int)+(xs.length:Int)).toNat else min (k:Int).toNat xs.length)).take (xs.length - (if (k:Int) < 0 then ((k:Int)+(xs.length:Int)).toNat else min (k:Int).toNat xs.length))=_
 rw[if_neg (by lia),Du,Nat.min_eq_left h]
 exact tW (by rw[List.length_drop];exact bu _)
theorem Ku(op bx:List Int)(room ev:Int):∀(ds:List mO.Dg)(b k:Nat),mO.fst op bx room ev ds b=some k->b<=k/\∃ d,ds[k - b]? = some d/\d.room=room
 | [],b,k,h=>by cases h
 | d :: ds,b,k,h=>by
  have h:(if mO.hit op bx room ev d=true then some b else mO.fst op bx room ev ds (b+1))=some k:=h
  split at h
  ·rename_i z
   obtain rfl:=oN h
   refine⟨bu _,d,by rw[Nat.sub_self];rfl,?_⟩
   unfold mO.hit at z
   rw[Bool.and_eq_true]at z
   have:=of_decide_eq_true z.1
   injection this
  ·obtain⟨h1,d',h2,h3⟩:=Ku op bx room ev ds (b+1) k h
   refine⟨by lia,d',?_,h3⟩
   rw[show k - b=(k - (b+1))+1 by lia,List.getElem?_cons_succ]
   exact h2
theorem xu{c:ig}{s:S4}{ev:Int}{k:Nat}(h:k∈wA c s ev):∃ d,c.ds[k]? = some d/\d.room∈s.os:=by
 unfold wA mO.ie at h
 obtain⟨r,hr,rfl⟩:=fO.mp h
 have h0:=dq.mp (dq.mp hr).1
 obtain⟨k,hk⟩:=Option.isSome_iff_exists.mp h0.2
 rw[hk]
 show ∃ d,c.ds[k]? = some d/\d.room∈s.os
 unfold mO.bj at hk
 split at hk
 ·obtain⟨_,d,h2,h3⟩:=Ku _ _ _ _ _ _ _ hk
  rw[Nat.sub_zero,qd]at h2
  cases e:c.ds[k]? with
  | none=>rw[e]at h2;cases h2
  | some d'=>
   rw[e]at h2
   obtain rfl:=oN h2
   refine⟨d',rfl,?_⟩
   have h3:(d'.room:Int)=(r:Int):=h3
   rw[Int.ofNat_inj.mp h3]
   exact h0.1
 ·cases hk
section
variable{c:ig}{k:Nat}{s s':S4}{es:List En}
theorem V7(ok:vN c)(so:pZ c s)(j:Jw c s.os s.ks)(h:vB c k s es s'):pZ c s'/\Jw c s'.os s'.ks:=by
 have j':=(wide ok).pass k s es s' j h
 obtain⟨d,ms,h1,h2,h3,h4,h5,h6⟩:=h
 have eb:s'.bx=(bB c.sz c.lb (au c k d s.os ms) s.bx s.l).1:=congrArg (·.1) h6
 have el:s'.l=(bB c.sz c.lb (au c k d s.os ms) s.bx s.l).2.1:=congrArg (·.2.1) h6
 exact⟨⟨j'.inc,j'.lt,j'.Y9 ok,by rw[eb,lG];exact so.bx,j'.len,by rw[el];exact vO so.l⟩,j'⟩
theorem MT(ok:vN c)(fit:Jl c.rs)(full:Tr.jC (aA c.rs) (Mf c.rs) (iu c.rs) s.os)(j:Jw c s.os s.ks){d:Dx}(hd:c.ds[k]? = some d)(ro:d.room∈s.os)(h:vB c k s es s'):Tr.jC (aA c.rs) (Mf c.rs) (iu c.rs) s'.os/\∀ x∈s.os,x ∉ outs es->x∈s'.os:=by
 obtain⟨d',ms,h1,hms,perm,rise,h5,h6⟩:=h
 rw[hd]at h1
 obtain rfl:=oN h1
 have ld:=yV c.rs
 have lt':∀ o∈s.os,o < (aA c.rs).length:=fun o ho=>by rw[ld];exact j.lt o ho
 have eo:outs es=aO c d s.os:=by
  rw[show es=(bB c.sz c.lb (au c k d s.os ms) s.bx s.l).2.2 from congrArg (·.2.2) h6]
  exact Hk _ _ _ _ _ _ _ _
 have mo:∀ x,x∈s'.os ↔ (x∈s.os/\x ∉ aO c d s.os) ∨ x∈ms:=fun x=>by
  rw[perm.mem_iff,cX]
  unfold bT
  rw[dq,vK.t8]
  simp
 refine⟨?_,fun x hx hn=>(mo x).mpr (.inl ⟨hx,by rw[<-eo];exact hn⟩)⟩
 by_cases hs:iw d.way=true
 ·have el:aO c d s.os=[]:=if_pos hs
  have e2:ms=[]:=(if_pos hs).mp hms
  have eos:s'.os=s.os:=cQ _ _ rise j.inc fun x=>by rw[mo,el,e2];simp
  rw[eos]
  exact full
 ·have el:aO c d s.os=vK.gj (aA c.rs) (cG c d) s.os:=if_neg hs
  have qE0:=(if_neg hs).mp hms
  have eu:∀ x,vK.under (aA c.rs) x (cG c d)=Tr.under (aA c.rs) x (cG c d):=fun x=>by cases cG c d <;> rfl
  have hL:∀ x,x∈aO c d s.os ↔ (x∈s.os/\Tr.under (aA c.rs) x (cG c d)=true):=fun x=>by
   rw[el]
   unfold vK.gj
   rw[List.mem_reverse,dq,eu]
  refine Tr.M5 ok.good full lt' (Yo full j.lt ro) (fun k p hk hp=>Jl.par fit (by rw[<-ld];exact hk) hp) (fun p hp=>Jl.one ok.good fit p hp) qE0 rise fun x=>?_
  rw[mo,hL]
  cases Tr.under (aA c.rs) x (cG c d) <;> simp
structure Kp(c:ig)(s:S4):Prop where
 ok:pZ c s
 j:Jw c s.os s.ks
 full:Tr.jC (aA c.rs) (Mf c.rs) (iu c.rs) s.os
theorem xZ(ok:vN c)(fit:Jl c.rs)(kp:Kp c s){ks lf:List Nat}{s1:S4}(h:iI c s ks lf es s1):(∀ k∈ks,∃ d,c.ds[k]? = some d/\d.room∈s.os)->lf=outs es/\Kp c s1/\∀ x∈s.os,x ∉ lf->x∈s1.os:=by
 induction h with
 | nil=>exact fun _=>⟨rfl,kp,fun x hx _=>hx⟩
 | skip h _ _ ih=>exact fun hk=>ih fun k hm=>hk k (List.mem_append_left _ hm)
 | @go ks lf es e1 s1 s2 k d h hd hin hp ih=>
  intro hk
  obtain⟨i1,i2,i3⟩:=ih fun k hm=>hk k (List.mem_append_left _ hm)
  obtain⟨d',hd',ro⟩:=hk k (List.mem_append_right _ (cJ.mpr rfl))
  rw[hd]at hd'
  obtain rfl:=oN hd'
  rw[vK.t8]at hin
  have hr:=i3 _ ro (of_decide_eq_false hin)
  have po:=V7 ok i2.ok i2.j hp
  have pf:=MT ok fit i2.full i2.j hd hr hp
  refine⟨by rw[jU,i1],⟨po.1,po.2,pf.1⟩,fun x hx hn=>?_⟩
  rw[cX,not_or]at hn
  exact pf.2 x (i3 x hx hn.1) hn.2
end
def Nx(c:ig)(ev:Int)(s:S4)(nt:Nat)(lv:V)(es:List En)(si:S4):Prop:=(∃ e:Int,lv = .int e/\nt < c.tn/\((nt=0/\e=ev/\es=[]/\si=s) ∨ ∃(e1:List En)(s1 sp:S4),pY c ev s e1 s1/\jm c e1 s1 nt es sp/\sp.l=e :: si.l/\si=⟨sp.os,sp.bx,sp.ks,si.l⟩)) ∨ (lv = .non/\∃(e1:List En)(s1:S4),pY c ev s e1 s1/\jm c e1 s1 nt es si/\(c.tn<=nt ∨ si.l=[]))
theorem Vc{c:ig}{ev e:Int}{s si s2:S4}{nt:Nat}{es e2:List En}(lt:nt < c.tn)(h:(nt=0/\e=ev/\es=[]/\si=s) ∨ ∃(e1:List En)(s1 sp:S4),pY c ev s e1 s1/\jm c e1 s1 nt es sp/\sp.l=e :: si.l/\si=⟨sp.os,sp.bx,sp.ks,si.l⟩)(t:pY c e si e2 s2):∃(e1:List En)(s1:S4),pY c ev s e1 s1/\jm c e1 s1 (nt+1) (es++e2) s2:=by
 rcases h with ⟨rfl,rfl,rfl,rfl⟩ | ⟨e1,s1,sp,h1,h2,h3,h4⟩
 ·exact⟨e2,s2,t,.one⟩
 ·rw[h4]at t
  exact⟨e1,s1,h1,.more h2 lt h3 t⟩
def QD:Sp:=fun vs H Q _ => ∃(pc ps:Addr)(c:ig)(bs:List (Int × Int))(ne:Nat)(ev:Int)(s:S4),vs=[.ref pc,.ref ps,.int ev]/\vM.Wg H pc c bs ne/\vM.Gq c bs ne/\dI H ps s/\Kp c s/\s.l=[] ∧
 ∀(t ps' pw:Addr)(wv:List V)(es':List En)(s':S4)(H':Hp),PN c ev s es' s'->Kp c s'->aM H H'->H' t=some (.tup [.ref ps',.ref pw])->dI H' ps' s'->H' pw=some (.lst wv)->Al (bw H') wv es'->wv.length<=1000000->Q (.ref t) H'
section
variable{P:Program}{w:World}{K:PySem.W.Frag}{mg:Str->Option Value}{base:Heap}
theorem bc:aN ["_law_chart_here","_law_stand_here","_law_event","_law_line","_law_record","_law_takes","_law_letter","_law_begin","_law_k","_law_left"] ["_law_chart_here","_law_stand_here","_law_event"] (aG rO):=⟨rfl,rfl,rfl,by decide +kernel,rfl,by decide +kernel,by decide +kernel⟩
theorem VH{n:Nat}{f g1 g2:Addr}{fd d1 d2:FuncData}(F:cZ K "_law_run" "_law_run" rO f fd)
  (Ox:aL P w K mg base aq n g1 d1 ["_law_chart_here","_law_stand_here","_law_event"] (mO.pB 3)) (Og:Binds K d1 ["_law_chart_here","_law_stand_here","_law_event"] []) (Ng:KI K g1) (Mz:mg "_law_chosen" = some (.ref g1))
  (Wb:aL P w K mg base aq n g2 d2 ["_law_chart_here","_law_stand_here","_law_k","_law_line","_law_record"] Jx) (W6:Binds K d2 ["_law_chart_here","_law_stand_here","_law_k","_law_line","_law_record"] []) (Vj:KI K g2) (Vd:mg "_law_pass" = some (.ref g2))
  (aY:mg "len" = none):aL P w K mg base aq (n+1) f fd ["_law_chart_here","_law_stand_here","_law_event"] QD:=by
 refine F.ok bc (fun vs H Q E h=>?_) (fun cdv A outer s H vs Q E hr h=>?_)
 ·refine aK fun G_ g_=>?_
  obtain⟨pc,ps,c,bs,ne,ev,s,rfl,_⟩:=h
  refine g_ ?_;clear g_
  rfl
 refine aK fun G_ g_=>?_
 obtain⟨pc,ps,c,bs,ne,ev,st,rfl,hX,ok,hS,kp0,l0,q⟩:=h
 refine g_ ?_;clear g_
 refine⟨_,(zE (zK (i:=3) bc.nd rfl (Or.inl rfl) (yK zD))
  (zE (zK (i:=4) bc.nd rfl (Or.inl rfl) (yK zD))
  (zE (zK (i:=5) bc.nd rfl (Or.inl rfl) zB)
  (zE (zK (i:=6) bc.nd rfl (Or.inl rfl) (pv 2))
  (zZ (pM PassesOwn.never (zL CG (pv 6) fV (zR _))
  (zE (zK (i:=5) bc.nd rfl (Or.inl rfl) (yC yF (pv 5) zB))
  (zE (yI (bz PySem.F.plainAttrs_list PySem.F.slot_list_append PySem.F.type_list_append yH (pv 4) (zA (zW (zA zP (zA (pv 6) zD))) zD)))
  (zE (zK (i:=7) bc.nd rfl (Or.inl rfl) (zS zN rfl aY PySem.boot_len (zA (pv 4) zD)))
  (zZ (bN PassesOwn.never rfl (yM (zJ Ox hr rfl Mz Ng Og .nil yE (zA (pv 0) (zA (pv 1) (zA (pv 6) zD))))) (yJ (i:=8) bc.nd rfl (Or.inl rfl))
  (zE (iJ (i:=9) (bY:=[]) rfl bc.nd rfl (Or.inl rfl) (show bQ (aG rO) ["_law_chart_here","_law_stand_here","_law_event","_law_line","_law_record","_law_takes","_law_letter","_law_begin","_law_k","_law_left"] _ _ _ from ⟨rfl,rfl,by decide +kernel,by decide +kernel,by decide +kernel,by decide +kernel,by decide +kernel⟩) (yM (fH q9 (pv 4) (iK (pv 7)) iM)) (fun _ _ _ _ _ _=>bU (zL (r:=rEq) yG (yB (r:=fj K) zH (pv 0) zB (fun _ _=>rfl)) zP (zR _))) (fun _ _ _ _ _ _=>(yB (r:=fj K) zH (pv 0) zB (fun _ _=>rfl))))
  (zG (yD (zL du (yB zH (yB zH (yB zH (pv 0) zB (fun _ _=>rfl)) (pv 8) (fun _ _=>rfl)) zB (fun _ _=>rfl)) (pv 9) rfl)
  (zG (zK (i:=1) bc.nd rfl (Or.inl rfl) (zJ Wb hr rfl Vd Vj W6 .nil yE (zA (pv 0) (zA (pv 1) (zA (pv 8) (zA (pv 3) (zA (pv 4) zD))))))))
  zT))))
  (zE (zK (i:=6) bc.nd rfl (Or.inl rfl) fV)
  (zG (yD (bW (PW.pt (pw_and (zL lQ (pv 5) (yB zH (pv 0) zB (fun _ _=>rfl)) (zR _)) (yP (zL fY (zS zN rfl aY PySem.boot_len (zA (pv 3) zD)) zB (zR _))))))
  (zG (zK (i:=6) bc.nd rfl (Or.inl rfl) (bz PySem.F.plainAttrs_list PySem.F.slot_list_pop PySem.F.type_list_pop Fd (pv 3) (zA zB zD))))
  zT))))))))
  (zZ (bN PassesOwn.never rfl (yM (pv 3)) (yJ (i:=6) bc.nd rfl (Or.inl rfl))
  (zG (yI (bz PySem.F.plainAttrs_list PySem.F.slot_list_append PySem.F.type_list_append yH (pv 4) (zA (zW (zA zP (zA (pv 6) zD))) zD)))))
  (zG (zO (zW (zA (pv 1) (zA (pv 4) zD))))))))))),?_⟩
 refine aK fun G_ g_=>?_
 obtain⟨pb,pn,t,pd,bv,nv,rmv,dv,h1,h2,h3,h4,h5,h6,h7,h8,h9,h10⟩:=id hX
 refine g_ ?_;clear g_
 have ok2:=ok.ok
 have t4:=ok.t4
 have l5:=ok.l5
 have hR:cD H t c.rs:=⟨rmv,h6,h7⟩
 have l10:=ok.l10
 refine⟨Nat.zero_le _,fun pq hpq=>?_⟩
 have u1:=zF hpq (.lst [])
 have i1:upd H pq (.lst []) pq=some (.lst []):=zC
 generalize upd H pq (.lst [])=H1 at u1 i1 ⊢
 refine⟨Nat.zero_le _,fun pr hpr=>?_⟩
 have Kc:H pr=none:=u1.free hpr
 have U9:pq ≠ pr:=zM i1 hpr
 have u2:=zF hpr (.lst [])
 have i2:upd H1 pr (.lst []) pr=some (.lst []):=zC
 have i12:=u2 _ _ i1
 have Q3:=u1.trans u2
 generalize upd H1 pr (.lst [])=H2 at u2 i2 i12 Q3 ⊢
 refine⟨_,rfl,fun σ' Hi => ∃(nt:Nat)(fu:Addr)(rv:List V)(es:List En)(si:S4)(o5 o7 o8 o9:Option V),σ'=[some (.ref pc),some (.ref fu),some (.int ev),some (.ref pq),some (.ref pr),o5,some .non,o7,o8,o9]/\aM H Hi/\dI Hi fu si/\Kp c si/\Hi pq=some (.lst (si.l.map V.int))/\Hi pr=some (.lst rv)/\Al (bw Hi) rv es/\es.length<=40000/\Nx c ev st nt .non es si,?_,?_⟩
 ·refine⟨fun ms σ' Hi => ∃(nt:Nat)(fu:Addr)(rv:List V)(es:List En)(si:S4)(lv:V)(o7 o8 o9:Option V),ms=5 - nt/\σ'=[some (.ref pc),some (.ref fu),some (.int ev),some (.ref pq),some (.ref pr),some (.int (nt:Int)),some lv,o7,o8,o9]/\aM H Hi/\dI Hi fu si/\Kp c si/\Hi pq=some (.lst (si.l.map V.int))/\Hi pr=some (.lst rv)/\Al (bw Hi) rv es/\es.length<=10000 * nt/\nt<=4/\Nx c ev st nt lv es si,
   ⟨_,0,ps,[],[],st,.int ev,_,_,_,rfl,rfl,Q3,hS.mono (aF.of Q3),kp0,(by rw[l0];exact i12),i2,.nil,bu _,by decide,.inl ⟨ev,rfl,t4.1,.inl ⟨rfl,rfl,rfl,rfl⟩⟩⟩,?_⟩
  rintro ms σ' Hi aP
  refine aK fun G_ g_=>?_
  obtain⟨nt,fu,rv,es,si,lv,o7,o8,o9,rfl,rfl,si0,hSi,kpi,XF,vH,yu,lei,n4,nx⟩:=aP
  refine g_ ?_;clear g_
  have kt:=aF.of si0
  rcases id nx with ⟨e,rfl,ltn,nxt⟩ | ⟨rfl,nxd⟩
  rotate_left
  ·refine⟨_,rfl,rfl,_,rfl,cW (fun z=>by cases z) (fun _=>?_)⟩
   exact⟨nt,fu,rv,es,si,_,_,_,_,rfl,si0,hSi,kpi,XF,vH,yu,by lia,nx⟩
  refine⟨_,rfl,rfl,_,rfl,cW (fun _=>?_) (fun z=>by cases z)⟩
  have so:=kpi.ok
  have sil:=so.l
  refine aK fun G_ g_=>?_
  obtain⟨po,PX,pk,kv,e1,e2,e3,e4,e5⟩:=id hSi
  refine g_ ?_;clear g_
  have lA:=yu.length
  refine⟨fun σ' H' => ∃(fu:Addr)(rv:List V)(es:List En)(si:S4)(lv:V)(o7 o8 o9:Option V),σ'=[some (.ref pc),some (.ref fu),some (.int ev),some (.ref pq),some (.ref pr),some (.int ((nt+1:Nat):Int)),some lv,o7,o8,o9]/\aM H H'/\dI H' fu si/\Kp c si/\H' pq=some (.lst (si.l.map V.int))/\H' pr=some (.lst rv)/\Al (bw H') rv es/\es.length<=10000 * (nt+1)/\Nx c ev st (nt+1) lv es si,?_,?_⟩
  ·rintro σ' H' aP
   refine aK fun G_ g_=>?_
   obtain⟨fu,rv,es,si,lv,o7,o8,o9,z1,z2,z3,z4,z5,z6,z7,z8,z9⟩:=aP
   refine g_ ?_;clear g_
   exact⟨5 - (nt+1),by lia,nt+1,fu,rv,es,si,lv,o7,o8,o9,rfl,z1,z2,z3,z4,z5,z6,z7,z8,by lia,z9⟩
  refine⟨_,rfl,bF ?_⟩
  -- the letter is taken
  refine⟨_,rfl,.inl ⟨rfl,_,aX.of vH⟩,_,rfl,zI (by show 2<=1000;decide),fun p3 hp3=>?_⟩
  have V5:=nF (.take e) vH yu hp3
  have Cq:upd Hi p3 (.tup [V.str ("take" : Str),V.int e]) pr=some (.lst rv):=by
   rw[zQ (zM vH hp3)]
   exact vH
  refine⟨pr,_,_,rfl,rfl,Cq,(by rw[sizeLine_eq];lia),?_⟩
  change (_:St->Hp->Prop) _ (upd (upd Hi p3 (.tup (En.take e).row)) pr (.lst (rv++[.ref p3])))
  generalize upd (upd Hi p3 (.tup (En.take e).row)) pr (.lst (rv++[.ref p3]))=H3 at V5 ⊢
  clear Cq
  refine aK fun G_ g_=>?_
  obtain⟨XD,hA3,Vu⟩:=V5
  refine g_ ?_;clear g_
  have s3:aM H H3:=fun b o z=>Vu b o (si0 b o z) (zM z Kc)
  have k3:aF Hi H3:=fun b o z=>Vu b _ z (cC z vH (by intro z;cases z))
  have hq3:=Vu _ _ XF U9
  have hS3:=hSi.mono k3
  generalize rv++[V.ref p3]=M9 at XD hA3 ⊢
  have lA3:=hA3.length
  rw[dJ,jj]at lA3
  refine⟨_,rfl,fW rfl (.inl (aX.of XD)) ?_⟩
  -- the doors
  refine⟨fun σ' H' => ∃(fu:Addr)(rv:List V)(lf:List Nat)(e2:List En)(s2:S4)(o8 o9:Option V),σ'=[some (.ref pc),some (.ref fu),some (.int ev),some (.ref pq),some (.ref pr),some (.int ((nt+1:Nat):Int)),some (.int e),some (.int (M9.length:Int)),o8,o9]/\aM H H'/\dI H' fu s2/\iI c si (wA c si e) lf e2 s2/\H' pq=some (.lst (s2.l.map V.int))/\H' pr=some (.lst rv)/\Al (bw H') rv (es++[.take e]++e2)/\e2.length<=9000,?_,?_⟩
  ·refine⟨_,rfl,_,rfl,_,rfl,pc,fu,t,pd,po,PX,c.od,si.os,si.bx,c.rs,c.ds.map Dx.dg,dv,_,_,_,_,_,e,rfl,s3 _ _ h1,hR.mono (aF.of s3),ok2.good,ok2.r40,s3 _ _ h9,dgs (h10.mono fun _ _ z=>z.mono (aF.of s3)),k3 _ _ e1,k3 _ _ e2,so.lt,so.inc,k3 _ _ e3,fun d hd=>?_,(by rw[cM];exact ok2.d63),fun pch H4 s4 RN hch=>?_⟩
   ·refine aK fun G_ g_=>?_
    obtain⟨x,hx,rfl⟩:=fO.mp hd
    refine g_ ?_;clear g_
    rw[so.bx]
    exact ok.g x hx
   have lch:=Lg c si e
   have Dp:si.os.length<=10:=Nat.le_trans (Tr.cL _ _ (Tr.bK so.inc) so.lt) l10
   have ncq:pch ≠ pq:=fun z=>by rw[z,hq3]at RN;cases RN
   have ncr:pch ≠ pr:=fun z=>by rw[z,XD]at RN;cases RN
   have ncH:H pch=none:=s3.free RN
   refine⟨pch,rfl,⟨_,aX.of hch⟩,?_⟩
   refine dC (K:=K) (a:=pch) (xs:=aB (wA c si e)) (fun i σ' H' => ∃(fu:Addr)(rv:List V)(lf:List Nat)(e2:List En)(s2:S4)(o8 o9:Option V),σ'=[some (.ref pc),some (.ref fu),some (.int ev),some (.ref pq),some (.ref pr),some (.int ((nt+1:Nat):Int)),some (.int e),some (.int (M9.length:Int)),o8,o9]/\aM H H'/\H' pch=some (.lst (aB (wA c si e)))/\dI H' fu s2/\iI c si ((wA c si e).take i) lf e2 s2/\H' pq=some (.lst (s2.l.map V.int))/\H' pr=some (.lst rv)/\Al (bw H') rv (es++[.take e]++e2)/\e2.length<=810 * i)
    ⟨fu,M9,[],[],si,_,_,rfl,s3.trans s4,hch,hS3.mono (aF.of s4),.nil,s4 _ _ hq3,s4 _ _ XD,(by rw[dM];exact hA3.mono fun _ _ z=>z.mono (aF.of s4)),Nat.zero_le _⟩ (fun i σ' Hi _ ⟨_,_,_,_,_,_,_,_,_,z,_⟩=>aX.of z) ?_ ?_
   ·rintro i x σ' H5 hx aP
    refine aK fun G_ g_=>?_
    obtain⟨Y4,vX,lf,e5,s5,o8,o9,rfl,HR,hc5,Dr,DR,Kr,BJ,xV,X5⟩:=aP
    obtain⟨hi,rfl⟩:=yR hx
    have hk:=cj hi
    have pW:(wA c si e).take (i+1)=(wA c si e).take i++[(wA c si e)[i]]:=by
     rw[gB,hk]
     rfl
    obtain⟨d,hd,ro⟩:=xu (fB hi)
    obtain⟨elf,Nb,stay⟩:=xZ ok2 ok.fit kpi DR fun k hm=>xu (List.mem_of_mem_take hm)
    refine g_ ?_;clear g_
    generalize (wA c si e)[i]=k at pW hd
    have X6:=xV.length
    rw[dJ,dJ,jj]at X6
    have qEI:lu vX (some (M9.length:Int)) none=vX.drop M9.length:=T9 vX (by lia)
    have hD:Al (bw H5) (vX.drop M9.length) e5:=by
     have e0:(es++[En.take e]).length=M9.length:=by rw[dJ,jj];lia
     have:=WN xV (es++[En.take e]).length
     rw[List.drop_left,e0]at this
     exact this
    refine⟨_,rfl,_,rfl,_,rfl,pr,_,rfl,aX.of BJ,fun p6 yr=>?_⟩
    rw[qEI]
    have u6:=zF yr (.lst (vX.drop M9.length))
    have i6:upd H5 p6 (.lst (vX.drop M9.length)) p6=some (.lst (vX.drop M9.length)):=zC
    generalize upd H5 p6 (.lst (vX.drop M9.length))=H6 at u6 i6 ⊢
    refine⟨p6,rfl,⟨_,aX.of i6⟩,?_⟩
    refine JM i6 (hD.mono fun _ _ z=>z.mono (aF.of u6)) (by lia) (fun a s' x' r' ha Zb z=>⟨_,rfl,a,_,_,V.str s',rfl,rfl,aH.of ha,(yQ (j:=0) (v:=V.str s') rfl),(show Uo (V.str s') (V.str ("out" : Str))=true from rfl),_,rfl,z⟩) (fun a s' x' r' ha Zv z=>⟨_,rfl,aD (aH.of ha) ((yQ (j:=1) rfl)) z⟩) (fun p7 XH=>?_)
    have u7:=zF XH (.lst (aB (outs e5)))
    have i7:upd H6 p7 (.lst (aB (outs e5))) p7=some (.lst (aB lf)):=by rw[zC,elf]
    generalize upd H6 p7 (.lst (aB (outs e5)))=H7 at u7 i7 ⊢
    have Pz:=u6.trans u7
    have s7:=HR.trans Pz
    refine aK fun G_ g_=>?_
    obtain⟨v,hv,a,gv,Sy,rfl,y1,y2,y3⟩:=h10.get hd
    refine g_ ?_;clear g_
    refine⟨_,rfl,aD (aH.of (s7 _ _ h1)) rfl ⟨_,rfl,aD (aH.of (s7 _ _ h9)) (yQ hv) (aD (aH.of (s7 _ _ y1)) rfl ⟨_,rfl,fW rfl (.inl (aX.of i7)) ⟨rfl,gq _,_,rfl,cW (fun z=>?_) (fun z=>?_)⟩⟩)⟩⟩
    ·have z2:inV (.int (d.room:Int)) (aB lf)=false:=by
      have:(!inV (.int (d.room:Int)) (aB lf))=true:=z
      simpa using this
     have hA7:=xV.mono fun _ _ z=>z.mono (aF.of Pz)
     refine⟨_,rfl,_,rfl,_,rfl,_,rfl,_,rfl,pc,Y4,pq,pr,c,bs,ne,k,_,s5,d,vX,_,rfl,rfl,hX.mono (aF.of s7),ok,Dr.mono (aF.of Pz),Nb.ok,Nb.j,Nb.full,hd,Pz _ _ Kr,Pz _ _ BJ,hA7,(by rw[dJ,dJ,jj];lia),U9,fun ps8 s8 e8 rv8 H8 PR hS8 hq8 hr8 hA8 le8 fr8=>?_⟩
     refine⟨ps8,rv8,lf++outs e8,e5++e8,s8,_,_,rfl,fun b o z=>fr8 b o (s7 _ _ z) (zM z hpq) (zM z Kc),fr8 _ _ (Pz _ _ hc5) ncq ncr,hS8,?_,hq8,hr8,(by rw[<-List.append_assoc];exact hA8),by rw[dJ];lia⟩
     rw[pW]
     exact .go DR hd z2 PR
    ·have z2:inV (.int (d.room:Int)) (aB lf)=true:=by
      have:(!inV (.int (d.room:Int)) (aB lf))=false:=z
      simpa using this
     refine⟨Y4,vX,lf,e5,s5,_,_,rfl,s7,Pz _ _ hc5,Dr.mono (aF.of Pz),?_,Pz _ _ Kr,Pz _ _ BJ,xV.mono fun _ _ z=>z.mono (aF.of Pz),by lia⟩
     rw[pW]
     exact .skip DR hd z2
   ·rintro σ' H5 aP
    refine aK fun G_ g_=>?_
    obtain⟨Y4,vX,lf,e5,s5,o8,o9,z1,z2,_,z3,z4,z5,z6,z7,z8⟩:=aP
    refine g_ ?_;clear g_
    rw[zU]at z4 z8
    rw[List.take_length]at z4
    exact⟨Y4,vX,lf,e5,s5,o8,o9,z1,z2,z3,z4,z5,z6,z7,by lia⟩
  rintro σ' H5 aP
  refine aK fun G_ g_=>?_
  obtain⟨Y4,vX,lf,e5,s5,o8,o9,rfl,HR,Dr,DR,Kr,BJ,xV,X5⟩:=aP
  obtain⟨_,Nb,_⟩:=xZ ok2 ok.fit kpi DR fun k hm=>xu hm
  obtain⟨x1,x2,tr1,rr1⟩:=Vc ltn nxt ⟨lf,e5,DR,rfl⟩
  refine g_ ?_;clear g_
  have X6:=xV.length
  have eA:es++[En.take e]++e5=es++(En.take e :: e5):=by rw[List.append_assoc];rfl
  rw[eA]at xV
  have l5':(es++(En.take e :: e5)).length<=10000 * (nt+1):=by
   rw[dJ,gC]
   lia
  refine⟨fun b H'=>H'=H5/\(b=true->nt+1 < c.tn/\s5.l ≠ [])/\(b=false->c.tn<=nt+1 ∨ s5.l=[]),?_,?_⟩
  ·refine⟨_,rfl,_,rfl,aD (aH.of (HR _ _ h1)) rfl (bF ⟨_,rfl,cW (fun z=>?_) (fun z=>?_)⟩)⟩
   ·have z1:=of_decide_eq_true z
    refine⟨_,rfl,fW rfl (.inl (aX.of Kr)) (bF ⟨_,rfl,rfl,fun z2=>⟨by lia,fun z3=>?_⟩,fun z2=>.inr ?_⟩)⟩
    ·rw[z3]at z2
     cases z2
    ·have z2:=of_decide_eq_false z2
     rw[cM]at z2
     exact List.eq_nil_of_length_eq_zero (by lia)
   ·have z1:=of_decide_eq_false z
    exact⟨rfl,(fun z=>by cases z),fun _=>.inl (by lia)⟩
  rintro b H6 aP
  refine aK fun G_ g_=>?_
  obtain⟨rfl,ht,hf⟩:=aP
  refine g_ ?_;clear g_
  refine cW (fun z=>?_) (fun z=>?_)
  ·refine aK fun G_ g_=>?_
   obtain⟨lt,nel⟩:=ht z
   obtain⟨e',l',el⟩:∃ e l',s5.l=e :: l':=by
    cases hl:s5.l with
    | nil=>exact absurd hl nel
    | cons e l'=>exact⟨e,l',rfl⟩
   refine g_ ?_;clear g_
   rw[el]at Kr
   refine⟨_,rfl,.inl ⟨rfl,_,aX.of Kr⟩,pq,_,0,0,.int e',rfl,rfl,Kr,by decide,by decide,?_,rfl,?_⟩
   ·rw[cM,gC]
    unfold seqIndex?
    simp
   have k6:=aF.lst Kr (.lst (l'.map V.int))
   refine⟨Y4,vX,_,⟨s5.os,s5.bx,s5.ks,l'⟩,.int e',_,_,_,rfl,fun b o z=>?_,(Dr.mono k6).tail l',⟨⟨Nb.ok.inc,Nb.ok.lt,Nb.ok.Hz,Nb.ok.bx,Nb.ok.ks,?_⟩,Nb.j,Nb.full⟩,zC,?_,xV.mono fun _ _ z=>z.mono k6,l5',.inl ⟨e',rfl,lt,.inr ⟨x1,x2,s5,tr1,rr1,el,rfl⟩⟩⟩
   ·show (upd H6 pq _) b=_
    rw[zQ (zM z hpq)]
    exact HR b o z
   ·have:=Nb.ok.l
    rw[el,gC]at this
    show l'.length<=_
    lia
   ·show (upd H6 pq _) pr=_
    rw[zQ (Ne.symm U9)]
    exact BJ
  ·exact⟨Y4,vX,_,s5,.non,_,_,_,rfl,HR,Dr,Nb,Kr,BJ,xV,l5',.inr ⟨rfl,x1,x2,tr1,rr1,hf z⟩⟩
 rintro σ' Hi aP
 refine aK fun G_ g_=>?_
 obtain⟨nt,fu,rv,es,si,o5,o7,o8,o9,rfl,si0,hSi,kpi,XF,vH,yu,lei,nx⟩:=aP
 obtain⟨x1,x2,tr1,rr1,dn⟩:∃(e1:List En)(s1:S4),pY c ev st e1 s1/\jm c e1 s1 nt es si/\(c.tn<=nt ∨ si.l=[]):=by
  rcases nx with ⟨e,z,_⟩ | ⟨_,z⟩
  ·cases z
  ·exact z
 refine g_ ?_;clear g_
 have sil:=kpi.ok.l
 refine⟨fun σ' H' => ∃(rv:List V)(o5 o6 o7 o8 o9:Option V),σ'=[some (.ref pc),some (.ref fu),some (.int ev),some (.ref pq),some (.ref pr),o5,o6,o7,o8,o9]/\aM H H'/\dI H' fu si/\H' pr=some (.lst rv)/\Al (bw H') rv (es++nT si.l),?_,?_⟩
 ·refine⟨_,rfl,pq,rfl,⟨_,aX.of XF⟩,?_⟩
  refine dC (K:=K) (a:=pq) (xs:=si.l.map V.int) (fun i σ' H' => ∃(rv:List V)(o5 o6 o7 o8 o9:Option V),σ'=[some (.ref pc),some (.ref fu),some (.int ev),some (.ref pq),some (.ref pr),o5,o6,o7,o8,o9]/\aM H H'/\H' pq=some (.lst (si.l.map V.int))/\dI H' fu si/\H' pr=some (.lst rv)/\Al (bw H') rv (es++nT (si.l.take i)))
   ⟨rv,_,_,_,_,_,rfl,si0,XF,hSi,vH,(by show Al _ _ (es++[]);rw[dM];exact yu)⟩ (fun i σ' Hi _ ⟨_,_,_,_,_,_,_,_,z,_⟩=>aX.of z) ?_ ?_
  ·rintro i x σ' H5 hx aP
   refine aK fun G_ g_=>?_
   obtain⟨vX,o5,o6,o7,o8,o9,rfl,HR,Kr,Dr,BJ,xV⟩:=aP
   refine g_ ?_;clear g_
   rw[qd]at hx
   cases hk:si.l[i]? with
   | none=>rw[hk]at hx;cases hx
   | some e=>
    rw[hk]at hx
    obtain rfl:=oN hx
    have X6:=xV.length
    unfold nT at X6
    rw[dJ,cM,dN]at X6
    refine⟨_,rfl,.inl ⟨rfl,_,aX.of BJ⟩,_,rfl,zI (by show 2<=1000;decide),fun p6 yr=>?_⟩
    have pe6:=nF (.rc (.lost e)) BJ xV yr
    have qDT:upd H5 p6 (.tup [V.str ("lost" : Str),V.int e]) pr=some (.lst vX):=by
     rw[zQ (zM BJ yr)]
     exact BJ
    refine⟨pr,_,_,rfl,rfl,qDT,(by rw[sizeLine_eq];lia),?_⟩
    change (_:St->Hp->Prop) _ (upd (upd H5 p6 (.tup (En.rc (.lost e)).row)) pr (.lst (vX++[.ref p6])))
    generalize upd (upd H5 p6 (.tup (En.rc (.lost e)).row)) pr (.lst (vX++[.ref p6]))=H7 at pe6 ⊢
    refine aK fun G_ g_=>?_
    obtain⟨y1,y2,y3⟩:=pe6
    refine g_ ?_;clear g_
    refine⟨_,_,_,_,_,_,rfl,fun b o z=>y3 b o (HR b o z) (zM z Kc),y3 _ _ Kr U9,Dr.mono (fun b o z=>y3 b _ z (cC z BJ (by intro z;cases z))),y1,?_⟩
    unfold nT at y2 ⊢
    rw[gB,hk,jH,<-List.append_assoc]
    exact y2
  ·rintro σ' H5 aP
   refine aK fun G_ g_=>?_
   obtain⟨vX,o5,o6,o7,o8,o9,z1,z2,_,z3,z4,z5⟩:=aP
   refine g_ ?_;clear g_
   rw[cM,tW (bu _)]at z5
   exact⟨vX,o5,o6,o7,o8,o9,z1,z2,z3,z4,z5⟩
 rintro σ' H5 aP
 refine aK fun G_ g_=>?_
 obtain⟨vX,o5,o6,o7,o8,o9,rfl,HR,Dr,BJ,xV⟩:=aP
 refine g_ ?_;clear g_
 refine⟨_,rfl,_,rfl,zI (by show 2<=1000;decide),fun tt htt=>?_⟩
 have u9:=zF htt (.tup [V.ref fu,V.ref pr])
 have X6:=xV.length
 unfold nT at X6
 rw[dJ,cM]at X6
 exact q tt fu pr vX _ si _ ⟨x1,es,x2,nt,tr1,rr1,dn,rfl⟩ kpi (HR.trans u9) zC (Dr.mono (aF.of u9)) (u9 _ _ BJ) (xV.mono fun _ _ z=>z.mono (aF.of u9)) (by lia)
theorem TQ{c:ig}{ev:Int}{s s1 s2:S4}{e1 e2:List En}{H:Hp}{t u p q a b:Addr}{wv uv:List V}(ok:vN c)(h1:PN c ev s e1 s1)(h2:PN c ev s e2 s2)(k:Kp c s2)(ht:H t=some (.tup [.ref p,.ref a]))(hu:H u=some (.tup [.ref q,.ref b]))(S1:dI H p s1)(S2:dI H q s2)(ha:H a=some (.lst wv))(hb:H b=some (.lst uv))(A1:Al (bw H) wv e1)(A2:Al (bw H) uv e2)(l:wv.length<=1000000):wF H 4 (.ref t) (.ref u):=by
 obtain⟨rfl,rfl⟩:=WQ h1 h2
 have b6:=ok.b6
 have r40:=ok.r40
 have lA:=A1.length
 exact Ti ht hu (qAE S1 S2 k.ok.Hz (by rw[k.ok.bx];lia) (by rw[k.j.len];lia) fun r hr=>(k.j.row r hr).2) (WM ha hb A1 A2 (by lia))
def Tn(c:ig)(o:Option V)(H:Hp):Prop:=∃(ps:Addr)(s:S4),o=some (.ref ps)/\dI H ps s/\Kp c s/\s.l=[]
def QC(K:PySem.W.Frag):Sp:=fun vs H Q _ => ∃(a:Addr)(ns:List Int),vs=[.ref a]/\aX K H a (ns.map V.int)/\ns.length<=63/\∀ H',Q (.bl true) H'
theorem Mp{f:Addr}{fd:FuncData}(F:cZ K "holds" "holds" pK f fd)(fM:Binds K fd ["guard","opening","boxes"] [])(fK:mg "holds" = some (.ref f)):aL P w K mg base aq 3 f fd ["guard","opening","boxes"] (K02.mX 3):=by
 exact K02.Bc F fM fK 3
theorem Mq{f:Addr}{fd:FuncData}(F:cZ K "_law_guard" "_law_guard" jK f fd)(dD:Binds K fd ["_law_number","_law_rooms_here","_law_boxes","_law_high"] [])(cu:mg "_law_guard" = some (.ref f)):aL P w K mg base aq 3 f fd ["_law_number","_law_rooms_here","_law_boxes","_law_high"] (vM.mY 3):=by
 exact vM.all_guard F dD cu 3
theorem Mj{f:Addr}{fd:FuncData}(F:cZ K "_law_same" "_law_same" Ac f fd)(iR:Binds K fd ["_law_found","_law_due"] [])(iQ:mg "_law_same" = some (.ref f))(bI:mg "isinstance" = none)(aa:mg "tuple" = none)(xM:mg "str" = none)(oO:mg "int" = none)(uN:mg "bool" = none)(dH:mg "list" = none)(aY:mg "len" = none)(aZ:mg "range" = none):aL P w K mg base aq 5 f fd ["_law_found","_law_due"] (qw 5):=by
 exact Bb F iR iQ bI aa xM oO uN dH aY aZ 5
theorem VF{f gm:Addr}{fd dm:FuncData}(F:cZ K "_law_opened" "_law_opened" gf f fd)(aW:aL P w K mg base aq 2 gm dm ["_law_script","_law_k","_law_salt"] (gF K))(aV:Binds K dm ["_law_script","_law_k","_law_salt"] [])(aU:KI K gm)(aR:mg "_law_mixed" = some (.ref gm))
  (eQ:Binds K fd ["_law_rooms_here","_law_room","_law_script","_law_at"] []) (eE:mg "_law_opened" = some (.ref f)) (aY:mg "len" = none):aL P w K mg base aq 7 f fd ["_law_rooms_here","_law_room","_law_script","_law_at"] (wM K 5):=by
 exact Lp F aW aV aU aR eQ eE aY 5
theorem Hs{f:Addr}{fd:FuncData}(F:cZ K "_law_holds" "_law_holds" jJ f fd)(gQ:Binds K fd ["_law_guard_here","_law_opening","_law_boxes"] [])(gO:mg "_law_holds" = some (.ref f)):aL P w K mg base aq 3 f fd ["_law_guard_here","_law_opening","_law_boxes"] (mO.jO 3):=by
 exact mO.xx F gQ gO 3
theorem kY:aN ["_law_script","_law_chart_here","_law_events","_law_lap","_law_stand_here","_law_event","_law_k","_law_due"] ["_law_script"] (aG ug):=⟨rfl,rfl,rfl,by decide +kernel,rfl,by decide +kernel,by decide +kernel⟩
theorem YG{n:Nat}{f g1 g2 g3 g4 g5 g6:Addr}{fd d1 d2 d3 d4 d5 d6:FuncData}(F:cZ K "law" "law" ug f fd)
  (Tw:aL P w K mg base aq n g1 d1 ["_law_script"] (vM.K3 K)) (Te:Binds K d1 ["_law_script"] []) (Ro:KI K g1) (RW:mg "_law_chart" = some (.ref g1))
  (Tt:aL P w K mg base aq n g2 d2 ["_law_chart_here","_law_script","_law_at"] (Js K)) (TY:Binds K d2 ["_law_chart_here","_law_script","_law_at"] []) (Rj:KI K g2) (RQ:mg "_law_stand" = some (.ref g2))
  (aW:aL P w K mg base aq n g3 d3 ["_law_script","_law_k","_law_salt"] (gF K)) (aV:Binds K d3 ["_law_script","_law_k","_law_salt"] []) (aU:KI K g3) (aR:mg "_law_mixed" = some (.ref g3))
  (wD:aL P w K mg base aq n g4 d4 ["chart","stand","event"] (K5 3)) (wB:Binds K d4 ["chart","stand","event"] []) (vm:KI K g4) (vh:mg "after" = some (.ref g4))
  (Jf:aL P w K mg base aq n g5 d5 ["_law_chart_here","_law_stand_here","_law_event"] QD) (JR:Binds K d5 ["_law_chart_here","_law_stand_here","_law_event"] []) (Iw:KI K g5) (Ih:mg "_law_run" = some (.ref g5))
  (tR:aL P w K mg base aq n g6 d6 ["_law_found","_law_due"] (qw 5)) (iR:Binds K d6 ["_law_found","_law_due"] []) (sX:KI K g6) (iQ:mg "_law_same" = some (.ref g6))
  (aZ:mg "range" = none) (aY:mg "len" = none) (Rb:mg "min" = none) (oO:mg "int" = none):aL P w K mg base aq (n+1) f fd ["_law_script"] (QC K):=by
 refine F.ok kY (fun vs H Q E h=>?_) (fun cdv A outer s H vs Q E hr h=>?_)
 ·refine aK fun G_ g_=>?_
  obtain⟨a,ns,rfl,_⟩:=h
  refine g_ ?_;clear g_
  rfl
 refine aK fun G_ g_=>?_
 obtain⟨a,ns,rfl,hS,h63,q⟩:=h
 refine g_ ?_;clear g_
 refine⟨_,(zE (zK (i:=1) kY.nd rfl (Or.inl rfl) (zJ Tw hr rfl RW Ro Te .nil yE (zA (pv 0) zD)))
  (zE (zK (i:=2) kY.nd rfl (Or.inl rfl) (zS zN rfl aY PySem.boot_len (zA (yB zH (pv 1) zB (fun _ _=>rfl)) zD)))
  (zZ (bN PassesOwn.never rfl (bV rfl aZ (zA (yC kh zB (yA uV rfl oO PyProof.Rows.boot_int (zA (gK fY (pv 2) zB (zR _)) zD))) zD)) (yJ (i:=3) kY.nd rfl (Or.inl rfl))
  (zE (zK (i:=4) kY.nd rfl (Or.inl rfl) (zJ Tt hr rfl RQ Rj TY .nil yE (zA (pv 1) (zA (pv 0) (zA (yC yF zB (yC gM zB (pv 3))) zD)))))
  (zG (bN PassesOwn.never rfl (bV rfl aZ (zA (pv 2) zD)) (yJ (i:=5) kY.nd rfl (Or.inl rfl))
  (zG (yD (qz (c7 (zJ tR hr rfl iQ sX iR .nil yE (zA (zJ wD hr rfl vh vm wB .nil yE (zA (pv 1) (zA (pv 4) (zA (pv 5) zD)))) (zA (zJ Jf hr rfl Ih Iw JR .nil yE (zA (pv 1) (zA (pv 4) (zA (pv 5) zD)))) zD)))))
  (zG (zO gU))
  zT))))))
  (zZ (yD (zL fY (pv 2) zB (zR _))
  (zE (yI (bz PySem.F.plainAttrs_list PySem.F.slot_list_append PySem.F.type_list_append yH (yB zH (zJ wD hr rfl vh vm wB .nil yE (zA (pv 1) (zA (pv 4) (zA zB zD)))) zB (fun _ _=>rfl)) (zA (zW (zA zP (zA zP zD))) zD)))
  (zE (yD (qz (c7 (zJ tR hr rfl iQ sX iR .nil yE (zA (zJ wD hr rfl vh vm wB .nil yE (zA (pv 1) (zA (pv 4) (zA zB zD)))) (zA (zJ Jf hr rfl Ih Iw JR .nil yE (zA (pv 1) (zA (pv 4) (zA zB zD)))) zD)))))
  (zG (zO gU))
  zT)
  (zG (bN PassesOwn.never rfl (bV rfl aZ (zA (zS (BK rfl) rfl Rb PyProof.Rows.boot_min (zA (zS zN rfl aY PySem.boot_len (zA (pv 0) zD)) (zA (yB yU (yK (zA zB (zA zB zD))) (yA uV rfl oO PyProof.Rows.boot_int (zA (gK fY (pv 2) zB (zR _)) zD)) (fun _ _=>rfl)) zD))) zD)) (yJ (i:=6) kY.nd rfl (Or.inl rfl))
  (zE (zK (i:=5) kY.nd rfl (Or.inl rfl) (yC zY (zJ aW hr rfl aR aU aV .nil yE (zA (pv 0) (zA (pv 6) (zA zB zD)))) (pv 2)))
  (zE (zK (i:=7) kY.nd rfl (Or.inl rfl) (zJ Jf hr rfl Ih Iw JR .nil yE (zA (pv 1) (zA (pv 4) (zA (pv 5) zD)))))
  (zE (yD (qz (c7 (zJ tR hr rfl iQ sX iR .nil yE (zA (zJ wD hr rfl vh vm wB .nil yE (zA (pv 1) (zA (pv 4) (zA (pv 5) zD)))) (zA (pv 7) zD)))))
  (zG (zO gU))
  zT)
  (zG (zK (i:=4) kY.nd rfl (Or.inl rfl) (yB zH (pv 7) zB (fun _ _=>rfl)))))))))))
  zT)
  (zG (zO gU)))))),?_⟩
 refine⟨_,rfl,a,ns,rfl,hS,h63,fun pc c bs ne H1 s1 hX ok=>?_⟩
 refine aK fun G_ g_=>?_
 obtain⟨pb,pn,t,pd,bv,nv,rmv,dv,h1,h2,h3,h4,h5,h6,h7,h8,h9,h10⟩:=id hX
 refine g_ ?_;clear g_
 have e8:=ok.e8
 have ok2:=ok.ok
 have ld:=yV c.rs
 have hC:=hX.ch ok
 have al:All c (Jw c) 3:=⟨ok2,wide ok2,ok.g⟩
 have Xk:c.tn<=20:=by have:=ok.t4;lia
 refine⟨_,rfl,aD (aH.of h1) rfl (fW rfl (.inr (aH.of h4)) ?_)⟩
 rw[h5]
 refine⟨fun σ' H'=>aM H1 H'/\∃ o3 o4 o5 o6 o7:Option V,σ'=[some (.ref a),some (.ref pc),some (.int (ne:Int)),o3,o4,o5,o6,o7]/\Tn c o4 H',?_,?_⟩
 ·refine⟨_,rfl,bF (.inr ⟨_,rfl,bF ⟨_,rfl,(by split <;> decide),(by split <;> decide),?_⟩⟩)⟩
  refine bR (fun i σ' H'=>aM H1 H'/\∃ o3 o4 o5 o6 o7:Option V,σ'=[some (.ref a),some (.ref pc),some (.int (ne:Int)),o3,o4,o5,o6,o7]/\(1<=i->Tn c o4 H')) ⟨aM.refl _,_,_,_,_,_,rfl,fun z=>by lia⟩ ?_ (fun σ' H' ⟨z,o3,o4,o5,o6,o7,e,w⟩=>⟨z,o3,o4,o5,o6,o7,e,w (by split <;> decide)⟩)
  rintro i σ' H2 hi aP
  refine aK fun G_ g_=>?_
  obtain⟨s2,o3,o4,o5,o6,o7,rfl,_⟩:=aP
  refine g_ ?_;clear g_
  have hi2:i < 2:=by
   refine Nat.lt_of_lt_of_le hi ?_
   split <;> decide
  refine⟨_,rfl,_,rfl,_,rfl,bF ⟨qu (by decide) (by decide),_,_,rfl,rfl,pc,a,ns,c,bs,ne,_,rfl,hX.mono (aF.of s2),ok,(s1.trans s2).seq hS,h63,⟨by lia,by lia⟩,fun ps st H3 s3 hSd sl V9 jw lbx=>?_⟩⟩
  have Ad:=s2.trans s3
  have full:Tr.jC (aA c.rs) (Mf c.rs) (iu c.rs) st.os:=V9.full (fun k p hk hp=>Jl.par ok.fit (by rw[<-ld];exact hk) hp) (fun p hp=>Jl.one ok2.good ok.fit p hp) fun p hp=>by
   have:=of_decide_eq_true hp
   unfold iu
   rw[this]
   decide +kernel
  have kp:Kp c st:=⟨⟨jw.inc,jw.lt,jw.Y9 ok2,lbx,jw.len,by rw[sl];exact Nat.zero_le _⟩,jw,full⟩
  refine⟨_,rfl,_,rfl,by lia,by lia,?_⟩
  refine bR (fun j σ' H'=>aM H3 H'/\∃ o5:Option V,σ'=[some (.ref a),some (.ref pc),some (.int (ne:Int)),some (.int (0+(i:Int))),some (.ref ps),o5,o6,o7]) ⟨aM.refl _,_,rfl⟩ ?_ (fun σ' H' ⟨z,_,e⟩=>⟨Ad.trans z,_,_,_,_,_,e,fun _=>⟨ps,st,rfl,hSd.mono (aF.of z),kp,sl⟩⟩)
  clear o5
  rintro j σ' H4 hj aP
  refine aK fun G_ g_=>?_
  obtain⟨s4,o5,rfl⟩:=aP
  refine g_ ?_;clear g_
  have Ha:=Ad.trans s4
  refine⟨_,rfl,_,rfl,_,rfl,pc,ps,c,_,st,rfl,hC.mono (aF.of Ha),al,hSd.mono (aF.of s4),kp.ok,jw,sl,Xk,fun t5 p5 w5 wv5 e5 s5 H5 AR5 j5 so5 HR Yp Dr XC nw5 xV X5=>?_⟩
  refine⟨_,rfl,_,rfl,_,rfl,pc,ps,c,bs,ne,_,st,rfl,hX.mono (aF.of (Ha.trans HR)),ok,hSd.mono (aF.of (s4.trans HR)),kp,sl,fun t6 p6 w6 wv6 e6 s6 H6 AR6 Pb sm6 ht6 hS6 hw6 hA6 le6=>?_⟩
  have alk:=TQ ok2 AR5 AR6 Pb (sm6 _ _ Yp) ht6 (Dr.mono (aF.of sm6)) hS6 (sm6 _ _ XC) hw6 (xV.mono fun _ _ z=>z.mono (aF.of sm6)) hA6 X5
  refine⟨_,_,4,rfl,by decide,alk,_,rfl,uQ rfl ?_⟩
  exact⟨s4.trans (HR.trans sm6),_,rfl⟩
 rintro σ' H2 aP
 refine aK fun G_ g_=>?_
 obtain⟨s2,o3,o4,o5,o6,o7,rfl,ps,st,rfl,hSd,kp,sl⟩:=aP
 refine g_ ?_;clear g_
 refine⟨fun σ' H'=>True,?_,?_⟩
 ·refine⟨_,rfl,bF ⟨_,rfl,cW (fun z=>?_) (fun _=>trivial)⟩⟩
  have pos:(0:Int) < (ne:Int):=of_decide_eq_true z
  refine⟨_,rfl,_,rfl,pc,ps,c,_,st,rfl,hC.mono (aF.of s2),al,hSd,kp.ok,kp.j,sl,Xk,fun t5 p5 w5 wv5 e5 s5 H5 AR5 j5 so5 HR Yp Dr XC nw5 xV X5=>?_⟩
  refine (aD (aH.of Yp) rfl ⟨.inl ⟨rfl,_,aX.of XC⟩,zI (by show 2<=1000;decide),fun p6 yr=>?_⟩)
  have u6:=zF yr (.tup [V.str ("say" : Str),V.str ("hum" : Str)])
  refine⟨w5,_,_,rfl,rfl,u6 _ _ XC,(by rw[sizeLine_eq];lia),?_⟩
  have s27:aM H2 _:=cB nw5 (HR.trans u6) (.lst (wv5++[.ref p6]))
  generalize upd (upd H5 p6 _) w5 _=H7 at s27 ⊢
  have Xr:=s2.trans s27
  refine⟨_,rfl,_,rfl,pc,ps,c,_,st,rfl,hC.mono (aF.of Xr),al,hSd.mono (aF.of s27),kp.ok,kp.j,sl,Xk,fun t5 p5 w5 wv5 e5 s5 H8 AR5 j5 so5 sm8 Yp Dr XC nw5 xV X5=>?_⟩
  refine⟨_,rfl,_,rfl,pc,ps,c,bs,ne,_,st,rfl,hX.mono (aF.of (Xr.trans sm8)),ok,hSd.mono (aF.of (s27.trans sm8)),kp,sl,fun t6 p6 w6 wv6 e6 s6 H9 AR6 Pb sm9 ht6 hS6 hw6 hA6 le6=>?_⟩
  have alk:=TQ ok2 AR5 AR6 Pb (sm9 _ _ Yp) ht6 (Dr.mono (aF.of sm9)) hS6 (sm9 _ _ XC) hw6 (xV.mono fun _ _ z=>z.mono (aF.of sm9)) hA6 X5
  refine⟨_,_,4,rfl,by decide,alk,_,rfl,uQ rfl ?_⟩
  have s19:=Xr.trans (sm8.trans sm9)
  have qC4:=hSd.mono (aF.of (s27.trans (sm8.trans sm9)))
  clear alk AR5 AR6
  refine⟨_,rfl,a,_,rfl,.inl ((s1.trans s19).seq hS),zI (by show 2<=1000;decide),fun xF Cu=>?_⟩
  have Bj:=zF Cu (.lst [V.int 10,V.int 6])
  have X8:upd H9 xF (.lst [V.int 10,V.int 6]) xF=some (.lst [V.int 10,V.int 6]):=zC
  generalize upd H9 xF (.lst [V.int 10,V.int 6])=Je at Bj X8 ⊢
  have qCW:=s19.trans Bj
  refine aK fun G_ g_=>?_
  obtain⟨nn,hat,hnn⟩:∃ nn:Int,oR [V.int 10,V.int 6] (if decide ((3:Int) < (ne:Int))=true then 1 else 0)=some (.int nn)/\0<=nn/\nn<=10:=by
   split
   ·exact⟨6,rfl,by decide,by decide⟩
   ·exact⟨10,rfl,by decide,by decide⟩
  refine g_ ?_;clear g_
  refine⟨_,rfl,bF (.inr ⟨_,rfl,cz (aX.of X8) hat ⟨_,_,rfl,_,rfl,?_,?_,?_⟩⟩)⟩
  ·rw[cM]
   split <;> lia
  ·rw[cM]
   split <;> lia
  refine bR (fun j σ' H'=>aM Je H'/\∃ o4 o5 o6 o7:Option V,σ'=[some (.ref a),some (.ref pc),some (.int (ne:Int)),o3,o4,o5,o6,o7]/\Tn c o4 H') ⟨aM.refl _,_,_,_,_,rfl,ps,st,rfl,qC4.mono (aF.of Bj),kp,sl⟩ ?_ (fun _ _ _=>trivial)
  clear qC4 hSd kp sl
  rintro j σ' Tq hj aP
  refine aK fun G_ g_=>?_
  obtain⟨U7,o4,o5,o6,o7,rfl,ps,st,rfl,hSd,kp,sl⟩:=aP
  refine g_ ?_;clear g_
  have Xu:=qCW.trans U7
  have hj':j<=100:=by
   rw[cM]at hj
   refine Nat.le_of_lt (Nat.lt_of_lt_of_le hj ?_)
   split <;> lia
  refine⟨_,rfl,_,rfl,a,ns,_,_,rfl,(s1.trans Xu).seq hS,h63,⟨by lia,by lia⟩,⟨by decide,by decide⟩,fun x x0 x1=>⟨_,rfl,bF ⟨pos,?_⟩⟩⟩
  refine⟨_,rfl,_,rfl,_,rfl,pc,ps,c,bs,ne,_,st,rfl,hX.mono (aF.of Xu),ok,hSd,kp,sl,fun t6 p6 w6 wv6 e6 s6 Pn AR6 Pb Xm ht6 hS6 hw6 hA6 le6=>?_⟩
  refine⟨_,rfl,_,rfl,_,rfl,pc,ps,c,_,st,rfl,hC.mono (aF.of (Xu.trans Xm)),al,hSd.mono (aF.of Xm),kp.ok,kp.j,sl,Xk,fun t5 p5 w5 wv5 e5 s5 Wa AR5 j5 so5 HS Yp Dr XC nw5 xV X5=>?_⟩
  have alk:=TQ ok2 AR5 AR6 Pb Yp (HS _ _ ht6) Dr (hS6.mono (aF.of HS)) XC (HS _ _ hw6) xV (hA6.mono fun _ _ z=>z.mono (aF.of HS)) X5
  refine⟨_,rfl,_,_,4,rfl,by decide,alk,_,rfl,uQ rfl ?_⟩
  refine⟨_,rfl,aD (aH.of (HS _ _ ht6)) rfl ?_⟩
  exact⟨U7.trans (Xm.trans HS),_,_,_,_,rfl,p6,⟨s6.os,s6.bx,s6.ks,[]⟩,rfl,(hS6.mono (aF.of HS)).tail [],⟨⟨Pb.ok.inc,Pb.ok.lt,Pb.ok.Hz,Pb.ok.bx,Pb.ok.ks,Nat.zero_le _⟩,Pb.j,Pb.full⟩,rfl⟩
 intro σ' H' _
 exact q _
end
end Ru
namespace Ru
open PySem L2 mR oU tZ Ds yd
theorem len0{P:List Value->Prop}(h:P [])(xs:List Value)(e:xs.length=0):P xs:=by
 cases xs with
 | nil=>exact h
 | cons a ys=>cases e
theorem NQ{n:Nat}{P:List Value->Prop}(h:∀ a (ys:List Value),ys.length=n->P (a :: ys))(xs:List Value)(e:xs.length=n+1):P xs:=by
 cases xs with
 | nil=>cases e
 | cons a ys=>exact h a ys (Nat.succ.inj e)
theorem NT{P:List Value->Prop}(h:∀ a,P [a])(xs:List Value)(e:xs.length=1):P xs:=NQ (fun a=>len0 (h a)) xs e
theorem sW{P:List Value->Prop}(h:∀ a b,P [a,b])(xs:List Value)(e:xs.length=2):P xs:=NQ (fun a=>NT (h a)) xs e
theorem iC{P:List Value->Prop}(h:∀ a b c,P [a,b,c])(xs:List Value)(e:xs.length=3):P xs:=NQ (fun a=>sW (h a)) xs e
theorem xP{P:List Value->Prop}(h:∀ a b c d,P [a,b,c,d])(xs:List Value)(e:xs.length=4):P xs:=NQ (fun a=>iC (h a)) xs e
theorem Vi{P:List Value->Prop}(h:∀ a b c d f,P [a,b,c,d,f])(xs:List Value)(e:xs.length=5):P xs:=NQ (fun a=>xP (h a)) xs e
theorem qDG{P:List Value->Prop}(h:∀ a b c d f g,P [a,b,c,d,f,g])(xs:List Value)(e:xs.length=6):P xs:=NQ (fun a=>Vi (h a)) xs e
set_option maxHeartbeats 0 in
theorem law_ok{w:World}{mg:Str->Option Value}{h base:Heap}(X:(KO w.params).In h)(G:h.Ns mainGlobals mg):aL PW w (KO w.params) mg base aq 10 399 Ss ["_law_script"] (QC (KO w.params)):=by
 have F1:=u1 w.params
 have b1:=F1.binds (ps:=["_law_script","_law_k"]) fun _ _ _ _ _ _=>sW fun _ _=>rfl
 have m1:=PySem.W.mg_of X G (a1 w.params)
 have k1:=F1.kp
 have F2:=u2 w.params
 have b2:=F2.binds (ps:=["_law_script","_law_k","_law_salt"]) fun _ _ _ _ _ _=>iC fun _ _ _=>rfl
 have m2:=PySem.W.mg_of X G (a2 w.params)
 have k2:=F2.kp
 have F3:=u3 w.params
 have b3:=F3.binds (ps:=["guard","opening","boxes"]) fun _ _ _ _ _ _=>iC fun _ _ _=>rfl
 have m3:=PySem.W.mg_of X G (a3 w.params)
 have k3:=F3.kp
 have F4:=u4 w.params
 have b4:=F4.binds (ps:=["chart","stand","event"]) fun _ _ _ _ _ _=>iC fun _ _ _=>rfl
 have m4:=PySem.W.mg_of X G (a4 w.params)
 have k4:=F4.kp
 have F5:=u5 w.params
 have b5:=F5.binds (ps:=["rooms","room"]) fun _ _ _ _ _ _=>sW fun _ _=>rfl
 have m5:=PySem.W.mg_of X G (a5 w.params)
 have k5:=F5.kp
 have F6:=u6 w.params
 have b6:=F6.binds (ps:=["rooms","room"]) fun _ _ _ _ _ _=>sW fun _ _=>rfl
 have m6:=PySem.W.mg_of X G (a6 w.params)
 have k6:=F6.kp
 have F7:=u7 w.params
 have b7:=F7.binds (ps:=["rooms","one","other"]) fun _ _ _ _ _ _=>iC fun _ _ _=>rfl
 have m7:=PySem.W.mg_of X G (a7 w.params)
 have k7:=F7.kp
 have F8:=u8 w.params
 have b8:=F8.binds (ps:=["rooms","one","other"]) fun _ _ _ _ _ _=>iC fun _ _ _=>rfl
 have m8:=PySem.W.mg_of X G (a8 w.params)
 have k8:=F8.kp
 have F9:=u9 w.params
 have b9:=F9.binds (ps:=["rooms","room"]) fun _ _ _ _ _ _=>sW fun _ _=>rfl
 have m9:=PySem.W.mg_of X G (a9 w.params)
 have k9:=F9.kp
 have F10:=Bj w.params
 have b10:=F10.binds (ps:=["rooms","room","goals"]) fun _ _ _ _ _ _=>iC fun _ _ _=>rfl
 have m10:=PySem.W.mg_of X G (a10 w.params)
 have k10:=F10.kp
 have F11:=Ly w.params
 have b11:=F11.binds (ps:=["rooms","room","goals"]) fun _ _ _ _ _ _=>iC fun _ _ _=>rfl
 have m11:=PySem.W.mg_of X G (a11 w.params)
 have k11:=F11.kp
 have F12:=Q3 w.params
 have b12:=F12.binds (ps:=["rooms","under","goals"]) fun _ _ _ _ _ _=>iC fun _ _ _=>rfl
 have m12:=PySem.W.mg_of X G (a12 w.params)
 have k12:=F12.kp
 have F13:=Q0 w.params
 have b13:=F13.binds (ps:=["rooms","under","opening"]) fun _ _ _ _ _ _=>iC fun _ _ _=>rfl
 have m13:=PySem.W.mg_of X G (a13 w.params)
 have k13:=F13.kp
 have F14:=u14 w.params
 have b14:=F14.binds (ps:=["rooms","told"]) fun _ _ _ _ _ _=>sW fun _ _=>rfl
 have m14:=PySem.W.mg_of X G (a14 w.params)
 have k14:=F14.kp
 have F15:=u15 w.params
 have b15:=F15.binds (ps:=["rooms","opening","room"]) fun _ _ _ _ _ _=>iC fun _ _ _=>rfl
 have m15:=PySem.W.mg_of X G (a15 w.params)
 have k15:=F15.kp
 have F16:=u16 w.params
 have b16:=F16.binds (ps:=["rooms","opening","left","kept"]) fun _ _ _ _ _ _=>xP fun _ _ _ _=>rfl
 have m16:=PySem.W.mg_of X G (a16 w.params)
 have k16:=F16.kp
 have F17:=u17 w.params
 have b17:=F17.binds (ps:=["chart","room","others"]) fun _ _ _ _ _ _=>iC fun _ _ _=>rfl
 have m17:=PySem.W.mg_of X G (a17 w.params)
 have k17:=F17.kp
 have F18:=u18 w.params
 have b18:=F18.binds (ps:=["chart","stand","event"]) fun _ _ _ _ _ _=>iC fun _ _ _=>rfl
 have m18:=PySem.W.mg_of X G (a18 w.params)
 have k18:=F18.kp
 have F19:=u19 w.params
 have b19:=F19.binds (ps:=["deed","boxes","sizes"]) fun _ _ _ _ _ _=>iC fun _ _ _=>rfl
 have m19:=PySem.W.mg_of X G (a19 w.params)
 have k19:=F19.kp
 have F20:=u20 w.params
 have b20:=F20.binds (ps:=["deed","boxes","letters"]) fun _ _ _ _ _ _=>iC fun _ _ _=>rfl
 have m20:=PySem.W.mg_of X G (a20 w.params)
 have k20:=F20.kp
 have F21:=u21 w.params
 have b21:=F21.binds (ps:=["deeds","boxes","sizes","letters"]) fun _ _ _ _ _ _=>xP fun _ _ _ _=>rfl
 have m21:=PySem.W.mg_of X G (a21 w.params)
 have k21:=F21.kp
 have F22:=u22 w.params
 have b22:=F22.binds (ps:=["chart"]) fun _ _ _ _ _ _=>NT fun _=>rfl
 have m22:=PySem.W.mg_of X G (a22 w.params)
 have k22:=F22.kp
 have F23:=u23 w.params
 have b23:=F23.binds (ps:=["record"]) fun _ _ _ _ _ _=>NT fun _=>rfl
 have m23:=PySem.W.mg_of X G (a23 w.params)
 have k23:=F23.kp
 have F24:=u24 w.params
 have b24:=F24.binds (ps:=["rooms","entered"]) fun _ _ _ _ _ _=>sW fun _ _=>rfl
 have m24:=PySem.W.mg_of X G (a24 w.params)
 have k24:=F24.kp
 have F25:=u25 w.params
 have b25:=F25.binds (ps:=["rooms","left"]) fun _ _ _ _ _ _=>sW fun _ _=>rfl
 have m25:=PySem.W.mg_of X G (a25 w.params)
 have k25:=F25.kp
 have F26:=u26 w.params
 have b26:=F26.binds (ps:=["steps","boxes","sizes","letters"]) fun _ _ _ _ _ _=>xP fun _ _ _ _=>rfl
 have m26:=PySem.W.mg_of X G (a26 w.params)
 have k26:=F26.kp
 have F27:=u27 w.params
 have b27:=F27.binds (ps:=["chart","kept","door"]) fun _ _ _ _ _ _=>iC fun _ _ _=>rfl
 have m27:=PySem.W.mg_of X G (a27 w.params)
 have k27:=F27.kp
 have F28:=u28 w.params
 have b28:=F28.binds (ps:=["chart","stand","door","letters"]) fun _ _ _ _ _ _=>xP fun _ _ _ _=>rfl
 have m28:=PySem.W.mg_of X G (a28 w.params)
 have k28:=F28.kp
 have F29:=u29 w.params
 have b29:=F29.binds (ps:=["chart","stand","event","letters"]) fun _ _ _ _ _ _=>xP fun _ _ _ _=>rfl
 have m29:=PySem.W.mg_of X G (a29 w.params)
 have k29:=F29.kp
 have F30:=u30 w.params
 have b30:=F30.binds (ps:=["chart","stand","record","letters"]) fun _ _ _ _ _ _=>xP fun _ _ _ _=>rfl
 have m30:=PySem.W.mg_of X G (a30 w.params)
 have k30:=F30.kp
 have F31:=u31 w.params
 have b31:=F31.binds (ps:=["chart","stand","event"]) fun _ _ _ _ _ _=>iC fun _ _ _=>rfl
 have m31:=PySem.W.mg_of X G (a31 w.params)
 have k31:=F31.kp
 have F32:=u32 w.params
 have b32:=F32.binds (ps:=["_law_k","_law_number"]) fun _ _ _ _ _ _=>sW fun _ _=>rfl
 have m32:=PySem.W.mg_of X G (a32 w.params)
 have k32:=F32.kp
 have F33:=u33 w.params
 have b33:=F33.binds (ps:=["_law_number","_law_sizes","_law_events"]) fun _ _ _ _ _ _=>iC fun _ _ _=>rfl
 have m33:=PySem.W.mg_of X G (a33 w.params)
 have k33:=F33.kp
 have F34:=u34 w.params
 have b34:=F34.binds (ps:=["_law_script","_law_k","_law_salt","_law_sizes","_law_events"]) fun _ _ _ _ _ _=>Vi fun _ _ _ _ _=>rfl
 have m34:=PySem.W.mg_of X G (a34 w.params)
 have k34:=F34.kp
 have F35:=u35 w.params
 have b35:=F35.binds (ps:=["_law_number","_law_rooms_here","_law_boxes","_law_high"]) fun _ _ _ _ _ _=>xP fun _ _ _ _=>rfl
 have m35:=PySem.W.mg_of X G (a35 w.params)
 have k35:=F35.kp
 have F36:=u36 w.params
 have b36:=F36.binds (ps:=["_law_script","_law_many"]) fun _ _ _ _ _ _=>sW fun _ _=>rfl
 have m36:=PySem.W.mg_of X G (a36 w.params)
 have k36:=F36.kp
 have F37:=u37 w.params
 have b37:=F37.binds (ps:=["_law_script","_law_depths_here","_law_sizes","_law_events"]) fun _ _ _ _ _ _=>xP fun _ _ _ _=>rfl
 have m37:=PySem.W.mg_of X G (a37 w.params)
 have k37:=F37.kp
 have F38:=u38 w.params
 have b38:=F38.binds (ps:=["_law_script","_law_many","_law_rooms_here","_law_sizes","_law_events"]) fun _ _ _ _ _ _=>Vi fun _ _ _ _ _=>rfl
 have m38:=PySem.W.mg_of X G (a38 w.params)
 have k38:=F38.kp
 have F39:=u39 w.params
 have b39:=F39.binds (ps:=["_law_script"]) fun _ _ _ _ _ _=>NT fun _=>rfl
 have m39:=PySem.W.mg_of X G (a39 w.params)
 have k39:=F39.kp
 have F40:=u40 w.params
 have b40:=F40.binds (ps:=["_law_guard_here","_law_opening","_law_boxes"]) fun _ _ _ _ _ _=>iC fun _ _ _=>rfl
 have m40:=PySem.W.mg_of X G (a40 w.params)
 have k40:=F40.kp
 have F41:=u41 w.params
 have b41:=F41.binds (ps:=["_law_rooms_here","_law_one","_law_other"]) fun _ _ _ _ _ _=>iC fun _ _ _=>rfl
 have m41:=PySem.W.mg_of X G (a41 w.params)
 have k41:=F41.kp
 have F42:=u42 w.params
 have b42:=F42.binds (ps:=["_law_chart_here","_law_stand_here","_law_room","_law_event"]) fun _ _ _ _ _ _=>xP fun _ _ _ _=>rfl
 have m42:=PySem.W.mg_of X G (a42 w.params)
 have k42:=F42.kp
 have F43:=u43 w.params
 have b43:=F43.binds (ps:=["_law_chart_here","_law_stand_here","_law_event"]) fun _ _ _ _ _ _=>iC fun _ _ _=>rfl
 have m43:=PySem.W.mg_of X G (a43 w.params)
 have k43:=F43.kp
 have F44:=u44 w.params
 have b44:=F44.binds (ps:=["_law_rooms_here","_law_room"]) fun _ _ _ _ _ _=>sW fun _ _=>rfl
 have m44:=PySem.W.mg_of X G (a44 w.params)
 have k44:=F44.kp
 have F45:=u45 w.params
 have b45:=F45.binds (ps:=["_law_rooms_here","_law_one","_law_other"]) fun _ _ _ _ _ _=>iC fun _ _ _=>rfl
 have m45:=PySem.W.mg_of X G (a45 w.params)
 have k45:=F45.kp
 have F46:=u46 w.params
 have b46:=F46.binds (ps:=["_law_rooms_here","_law_room","_law_goals"]) fun _ _ _ _ _ _=>iC fun _ _ _=>rfl
 have m46:=PySem.W.mg_of X G (a46 w.params)
 have k46:=F46.kp
 have F47:=u47 w.params
 have b47:=F47.binds (ps:=["_law_rooms_here","_law_room","_law_goals"]) fun _ _ _ _ _ _=>iC fun _ _ _=>rfl
 have m47:=PySem.W.mg_of X G (a47 w.params)
 have k47:=F47.kp
 have F48:=u48 w.params
 have b48:=F48.binds (ps:=["_law_found","_law_due"]) fun _ _ _ _ _ _=>sW fun _ _=>rfl
 have m48:=PySem.W.mg_of X G (a48 w.params)
 have k48:=F48.kp
 have F49:=u49 w.params
 have b49:=F49.binds (ps:=["_law_deeds_here","_law_held","_law_sizes","_law_line","_law_most","_law_record"]) fun _ _ _ _ _ _=>qDG fun _ _ _ _ _ _=>rfl
 have m49:=PySem.W.mg_of X G (a49 w.params)
 have k49:=F49.kp
 have F50:=u50 w.params
 have b50:=F50.binds (ps:=["_law_rooms_here","_law_room","_law_script","_law_at"]) fun _ _ _ _ _ _=>xP fun _ _ _ _=>rfl
 have m50:=PySem.W.mg_of X G (a50 w.params)
 have k50:=F50.kp
 have F51:=u51 w.params
 have b51:=F51.binds (ps:=["_law_chart_here","_law_script","_law_at"]) fun _ _ _ _ _ _=>iC fun _ _ _=>rfl
 have m51:=PySem.W.mg_of X G (a51 w.params)
 have k51:=F51.kp
 have F52:=u52 w.params
 have b52:=F52.binds (ps:=["_law_rooms_here","_law_stand_here","_law_left"]) fun _ _ _ _ _ _=>iC fun _ _ _=>rfl
 have m52:=PySem.W.mg_of X G (a52 w.params)
 have k52:=F52.kp
 have F53:=u53 w.params
 have b53:=F53.binds (ps:=["_law_chart_here","_law_stand_here","_law_k","_law_line","_law_record"]) fun _ _ _ _ _ _=>Vi fun _ _ _ _ _=>rfl
 have m53:=PySem.W.mg_of X G (a53 w.params)
 have k53:=F53.kp
 have F54:=u54 w.params
 have b54:=F54.binds (ps:=["_law_chart_here","_law_stand_here","_law_event"]) fun _ _ _ _ _ _=>iC fun _ _ _=>rfl
 have m54:=PySem.W.mg_of X G (a54 w.params)
 have k54:=F54.kp
 have F55:=u55 w.params
 have FM1:=uM1 w.params
 have bM1:=FM1.binds (ps:=["self","most"]) fun _ _ _ _ _ _=>sW fun _ _=>rfl
 have MkC:Mk (KO w.params) 109 85:=⟨(mkC w.params).1,aM1 w.params,iM1 w.params,(mkC w.params).2⟩
 have FM2:=uM2 w.params
 have bM2:=FM2.binds (ps:=["self","event"]) fun _ _ _ _ _ _=>sW fun _ _=>rfl
 have mM2:Meth (KO w.params) 109 "add" 92:=⟨aM2 w.params,iM2 w.params,FM2.kp⟩
 have FM3:=uM3 w.params
 have bM3:=FM3.binds (ps:=["self"]) fun _ _ _ _ _ _=>NT fun _=>rfl
 have mM3:Meth (KO w.params) 109 "taken" 99:=⟨aM3 w.params,iM3 w.params,FM3.kp⟩
 have FM4:=uM4 w.params
 have bM4:=FM4.binds (ps:=["self"]) fun _ _ _ _ _ _=>NT fun _=>rfl
 have mM4:Meth (KO w.params) 109 "waiting" 106:=⟨aM4 w.params,iM4 w.params,FM4.kp⟩
 have cl:=clC w.params
 have mC:=PySem.W.mg_of X G (aC w.params)
 have Ke:=RK w.params
 have qL:=Ib w.params
 have dX:=PySem.W.mg_none_of X G (z1 w.params)
 have qBL:=PySem.W.mg_none_of X G (z2 w.params)
 have Ww:=PySem.W.mg_none_of X G (z3 w.params)
 have cY:=PySem.W.mg_none_of X G (z4 w.params)
 have uM:=PySem.W.mg_none_of X G (z5 w.params)
 have dz:=PySem.W.mg_none_of X G (z6 w.params)
 have CT:=PySem.W.mg_none_of X G (z7 w.params)
 have RP:=PySem.W.mg_none_of X G (z8 w.params)
 have YQ:=PySem.W.mg_none_of X G (z9 w.params)
 have lW:=PySem.W.mg_none_of X G (z10 w.params)
 have Wx:=PySem.W.mg_none_of X G (z11 w.params)
 have Fb:=PySem.W.mg_none_of X G (z12 w.params)
 have qBK:=PySem.W.mg_none_of X G (z13 w.params)
 have Ig:=PySem.W.mg_none_of X G (z14 w.params)
 have GM1:=jA.VN (P:=PW) (w:=w) (base:=base) (mg:=mg) FM1 cl Ke qL
 have GM2:=jA.YJ (P:=PW) (w:=w) (base:=base) (mg:=mg) FM2 cl Ke qL dX
 have GM3:=jA.Qs (P:=PW) (w:=w) (base:=base) (mg:=mg) FM3 cl qL dX
 have GM4:=jA.Hm (P:=PW) (w:=w) (base:=base) (mg:=mg) FM4 cl qL uM
 have G1:=Va (P:=PW) (w:=w) (base:=base) (mg:=mg) F1 dX
 have G2:=Qv (P:=PW) (w:=w) (base:=base) (mg:=mg) F2 G1 b1 k1 m1 dX qBL
 have G3:=Mp (P:=PW) (w:=w) (base:=base) (mg:=mg) F3 b3 m3
 have G4:=mO.Hy (P:=PW) (w:=w) (base:=base) (mg:=mg) F4 G3 b3 k3 m3 Fb
 have G5:=jA.YH (P:=PW) (w:=w) (base:=base) (mg:=mg) F5 cY dX
 have G6:=jA.Mi (P:=PW) (w:=w) (base:=base) (mg:=mg) F6 cY
 have G7:=jA.VL (P:=PW) (w:=w) (base:=base) (mg:=mg) F7 G5 b5 k5 m5
 have G8:=jA.VP (P:=PW) (w:=w) (base:=base) (mg:=mg) F8 (G6.mono (show 1<=2 by decide)) b6 k6 m6 G7 b7 k7 m7
 have G9:=jA.VM (P:=PW) (w:=w) (base:=base) (mg:=mg) F9 G5 b5 k5 m5 cY
 have G10:=jA.yp (P:=PW) (w:=w) (base:=base) (mg:=mg) F10 G5 b5 k5 m5 Wx
 have G11:=jA.Hr (P:=PW) (w:=w) (base:=base) (mg:=mg) F11 G9 b9 k9 m9 G10 b10 k10 m10
 have G12:=jA.CN (P:=PW) (w:=w) (base:=base) (mg:=mg) F12 G11 b11 k11 m11 dX lW
 have G13:=jA.yo (P:=PW) (w:=w) (base:=base) (mg:=mg) F13 G5 b5 k5 m5 lW
 have G14:=jA.ym (P:=PW) (w:=w) (base:=base) (mg:=mg) F14 dz
 have G15:=jA.Hv (P:=PW) (w:=w) (base:=base) (mg:=mg) F15 G13 b13 k13 m13 (G14.mono (show 1<=2 by decide)) b14 k14 m14 lW dz
 have G16:=jA.Hw (P:=PW) (w:=w) (base:=base) (mg:=mg) F16 G15 b15 k15 m15 uM dz
 have G17:=mO.Hq (P:=PW) (w:=w) (base:=base) (mg:=mg) F17 G7 b7 k7 m7 Wx
 have G18:=mO.Ms (P:=PW) (w:=w) (base:=base) (mg:=mg) F18 G4 b4 k4 m4 (G17.mono (show 3<=4 by decide)) b17 k17 m17 lW
 have G19:=jA.Hx (P:=PW) (w:=w) (base:=base) (mg:=mg) F19
 have G20:=jA.FP (P:=PW) (w:=w) (base:=base) (mg:=mg) F20 cl mM2 GM2 bM2
 have G21:=jA.VR (P:=PW) (w:=w) (base:=base) (mg:=mg) F21 (G19.mono (show 1<=2 by decide)) b19 k19 m19 G20 b20 k20 m20
 have G22:=FN (P:=PW) (w:=w) (base:=base) (mg:=mg) F22 dz
 have G23:=yl (P:=PW) (w:=w) (base:=base) (mg:=mg) F23
 have G24:=FJ (P:=PW) (w:=w) (base:=base) (mg:=mg) F24
 have G25:=CK (P:=PW) (w:=w) (base:=base) (mg:=mg) F25
 have G26:=Ho (P:=PW) (w:=w) (base:=base) (mg:=mg) F26 G21 b21 k21 m21
 have G27:=FQ (P:=PW) (w:=w) (base:=base) (mg:=mg) F27 dX uM
 have G28:=Mh (P:=PW) (w:=w) (base:=base) (mg:=mg) F28 (G8.mono (show 3<=4 by decide)) b8 k8 m8 (G13.mono (show 2<=4 by decide)) b13 k13 m13 G16 b16 k16 m16 G12 b12 k12 m12 (G27.mono (show 1<=4 by decide)) b27 k27 m27 (G25.mono (show 1<=4 by decide)) b25 k25 m25 (G24.mono (show 1<=4 by decide)) b24 k24 m24 G26 b26 k26 m26 (G22.mono (show 1<=4 by decide)) b22 k22 m22 dz lW
 have G29:=VD (P:=PW) (w:=w) (base:=base) (mg:=mg) F29 G18 b18 k18 m18 G28 b28 k28 m28 (G23.mono (show 1<=5 by decide)) b23 k23 m23
 have G30:=Mg (P:=PW) (w:=w) (base:=base) (mg:=mg) F30 cl mM3 (GM3.mono (show 1<=6 by decide)) bM3 mM4 (GM4.mono (show 1<=6 by decide)) bM4 G29 b29 k29 m29 dX uM
 have G31:=RB (P:=PW) (w:=w) (base:=base) (mg:=mg) F31 cl MkC (GM1.mono (show 1<=6 by decide)) bM1 mC (G29.mono (show 6<=7 by decide)) b29 k29 m29 G30 b30 k30 m30
 have G32:=vM.VG (P:=PW) (w:=w) (base:=base) (mg:=mg) F32 dX
 have G33:=vM.VV (P:=PW) (w:=w) (base:=base) (mg:=mg) F33 G32 b32 k32 m32 dX
 have G34:=vM.R8 (P:=PW) (w:=w) (base:=base) (mg:=mg) F34 G2 b2 k2 m2 G33 b33 k33 m33 cY dz
 have G35:=Mq (P:=PW) (w:=w) (base:=base) (mg:=mg) F35 b35 m35
 have G36:=vM.Mr (P:=PW) (w:=w) (base:=base) (mg:=mg) F36 G2 b2 k2 m2 cY Ww
 have G37:=vM.Qu (P:=PW) (w:=w) (base:=base) (mg:=mg) F37 (G2.mono (show 2<=3 by decide)) b2 k2 m2 (G32.mono (show 1<=3 by decide)) b32 k32 m32 G34 b34 k34 m34 (G1.mono (show 1<=3 by decide)) b1 k1 m1 cY dX dz
 have G38:=vM.R7 (P:=PW) (w:=w) (base:=base) (mg:=mg) F38 (G2.mono (show 2<=3 by decide)) b2 k2 m2 G35 b35 k35 m35 G34 b34 k34 m34 cY dX dz RP
 have G39:=vM.R9 (P:=PW) (w:=w) (base:=base) (mg:=mg) F39 (G2.mono (show 2<=4 by decide)) b2 k2 m2 (G1.mono (show 1<=4 by decide)) b1 k1 m1 (G32.mono (show 1<=4 by decide)) b32 k32 m32 (G36.mono (show 3<=4 by decide)) b36 k36 m36 G37 b37 k37 m37 G38 b38 k38 m38 cY dz
 have G40:=Hs (P:=PW) (w:=w) (base:=base) (mg:=mg) F40 b40 m40
 have G41:=mO.Qy (P:=PW) (w:=w) (base:=base) (mg:=mg) F41 cY
 have G42:=mO.Hu (P:=PW) (w:=w) (base:=base) (mg:=mg) F42 G40 b40 k40 m40 dX cY
 have G43:=Ht (P:=PW) (w:=w) (base:=base) (mg:=mg) F43 G42 b42 k42 m42 (G41.mono (show 1<=4 by decide)) b41 k41 m41 dX
 have G44:=Qz (P:=PW) (w:=w) (base:=base) (mg:=mg) F44 G41 b41 k41 m41 cY dX
 have G45:=R3 (P:=PW) (w:=w) (base:=base) (mg:=mg) F45 G41 b41 k41 m41 cY dX
 have G46:=Mm (P:=PW) (w:=w) (base:=base) (mg:=mg) F46 G41 b41 k41 m41
 have G47:=R1 (P:=PW) (w:=w) (base:=base) (mg:=mg) F47 G44 b44 k44 m44 G46 b46 k46 m46 b47 m47
 have G48:=Mj (P:=PW) (w:=w) (base:=base) (mg:=mg) F48 b48 m48 CT dz qBK RP YQ uM dX cY
 have G49:=R4 (P:=PW) (w:=w) (base:=base) (mg:=mg) F49 dX
 have G50:=VF (P:=PW) (w:=w) (base:=base) (mg:=mg) F50 G2 b2 k2 m2 b50 m50 dX
 have G51:=Qt (P:=PW) (w:=w) (base:=base) (mg:=mg) F51 (G2.mono (show 2<=7 by decide)) b2 k2 m2 G50 b50 k50 m50 cY dX dz
 have G52:=R0 (P:=PW) (w:=w) (base:=base) (mg:=mg) F52 G44 b44 k44 m44 (G41.mono (show 1<=2 by decide)) b41 k41 m41 cY dX dz
 have G53:=Qx (P:=PW) (w:=w) (base:=base) (mg:=mg) F53 (G45.mono (show 2<=7 by decide)) b45 k45 m45 (G41.mono (show 1<=7 by decide)) b41 k41 m41 (G52.mono (show 3<=7 by decide)) b52 k52 m52 G47 b47 k47 m47 (G49.mono (show 1<=7 by decide)) b49 k49 m49 uM Ig lW dz
 have G54:=VH (P:=PW) (w:=w) (base:=base) (mg:=mg) F54 (G43.mono (show 5<=8 by decide)) b43 k43 m43 G53 b53 k53 m53 dX
 exact YG (n:=9) F55 (G39.mono (show 5<=9 by decide)) b39 k39 m39 (G51.mono (show 8<=9 by decide)) b51 k51 m51 (G2.mono (show 2<=9 by decide)) b2 k2 m2 (G31.mono (show 8<=9 by decide)) b31 k31 m31 G54 b54 k54 m54 (G48.mono (show 5<=9 by decide)) b48 k48 m48 cY dX Ww RP
theorem walk:PySem.W.WalkO QV LS (PySem.W.XL QV []) HK.says PySem.Challenge.rw_nesthall_k28_a_plain_runner.row.toRowW JK [] (fun f vs=>PySem.call f vs):=by
 refine L2.Uc (l:=PySem.Challenge.rw_nesthall_k28_a_plain_runner) (n:=63) (k:=10) (x := "_law_script") (K:=KO) (CX:=fun _=>aq) (sp:=fun w=>QC (KO w.params)) rfl (by decide) rfl ⟨rfl,by decide,by decide⟩ (fun w h Y=>Y) ?_ (fun _ _ a ns hl _ hS=>⟨a,ns,rfl,hS,hl,fun _=>rfl⟩) fun _ _ _ _ _ z=>z
 intro w mg fa h KX G hmg
 have e:=hmg.symm.trans (PySem.W.mg_of KX G (a55 w.params))
 cases e
 exact⟨Ss,fun s v=>.of_eq rfl,fun base _ _=>law_ok KX G⟩
end Ru
open PySem PySem.W PyProof.Rows
set_option maxRecDepth 100000 in
set_option maxHeartbeats 0 in
theorem PySem.Challenge.cw_nesthall_k28_a_plain_runner_holds : PySem.Challenge.rw_nesthall_k28_a_plain_runner.Holds := by
 refine holds_law Ru.said fun said=>?_
 refine PySem.W.holds_open (r:=PySem.Challenge.rw_nesthall_k28_a_plain_runner.row) Ru.left Ru.HK.of Ru.HK.keeps
  (fun s e=>xl_of s (Bool.and_eq_true_iff.mp e).1) XL.keeps Ru.hdef Ru.hthe Ru.hkw
  (fun s e=>recFacts_of (Bool.and_eq_true_iff.mp e).2) rfl said Ru.hok Ru.hbare ?hw Ru.walk
 case hw=>w_witness2
