import PyProof.Rows.All
import Wide.All
import OpenK.AllK
import Wide.FinOn
import Lean
import PyProof.EqAt
import PyProof.EqKinds
import PyProof.TupleCall
import PySem.Challenge.RW_nesthall_k50_whole_never_met
set_option Elab.async false
set_option linter.all false
set_option maxRecDepth 100000
set_option genSizeOf false
set_option genSizeOfSpec false
noncomputable section
set_option maxHeartbeats 0 in
theorem Aa.qAN:PySem.Challenge.rw_nesthall_k50_whole_never_met.row.wellSaid=true:=by kernel_rfl
set_option maxHeartbeats 0 in
theorem Aa.said:PySem.Challenge.rw_nesthall_k50_whole_never_met.wellSaid=true:=by
 unfold PySem.W.OpenLaw.wellSaid;rw[Aa.qAN]
 kernel_rfl
noncomputable abbrev bO:=PySem.W.Frag
noncomputable abbrev j5:=@PySem.Heap.get?_push_of_some
noncomputable abbrev gP:=@PySem.Heap.lt_size
noncomputable abbrev xJ:=@PySem.Heap.get?_push_size
noncomputable abbrev Ck:=@List.getElem?_append_left
noncomputable abbrev Sy:=@List.getElem?_append_right
noncomputable abbrev Cu:=@List.mem_cons_self
noncomputable abbrev Gf:=@List.mem_of_getElem?
noncomputable abbrev Ai:=@Nat.lt_of_lt_of_le
noncomputable abbrev kI:=@Nat.ne_of_lt
noncomputable abbrev GQ:=@List.mem_cons_of_mem
noncomputable abbrev cA:=@PySem.boot_len
noncomputable abbrev j7:=@PySem.F.plainAttrs_list
noncomputable abbrev pY:=@PySem.F.slot_list_append
noncomputable abbrev pX:=@PySem.F.type_list_append
noncomputable abbrev lV:=@PyProof.Rows.boot_tuple
noncomputable abbrev OJ:=@PyProof.Rows.boot_isinstance
noncomputable abbrev pW:=@Int.emod_nonneg
noncomputable abbrev rR:=@Int.emod_lt_of_pos
noncomputable abbrev qE5:=@List.getElem?_range
noncomputable abbrev bZ:=@List.length_map
noncomputable abbrev gq:=@List.getElem?_eq_getElem
noncomputable abbrev dW:=@List.length_append
noncomputable abbrev bM:=@Nat.le_refl
noncomputable abbrev lQ:=@List.getElem?_eq_some_iff
noncomputable abbrev xf:=@List.size_toArray
noncomputable abbrev pZ:=@Bool.false_ne_true
noncomputable abbrev jO:=@Option.some.inj
noncomputable abbrev jd:=@List.map_append
noncomputable abbrev xK:=@List.take_of_length_le
noncomputable abbrev cB:=@List.mem_singleton
noncomputable abbrev lX:=@List.getD_eq_getElem?_getD
noncomputable abbrev dz:=@List.length_cons
noncomputable abbrev jP:=@List.length_take
noncomputable abbrev j8:=@List.take_add_one
noncomputable abbrev gj:=@List.length_singleton
noncomputable abbrev bI:=@List.mem_cons
noncomputable abbrev gQ:=@List.append_nil
noncomputable abbrev cX:=@List.mem_append
noncomputable abbrev eQ:=@List.mem_map
noncomputable abbrev gf:=@List.getElem?_map
noncomputable abbrev rT:=@List.length_filter_le
noncomputable abbrev je:=@List.getElem_mem
noncomputable abbrev lW:=@List.mem_filter
noncomputable abbrev Tg:=@Int.toNat_natCast
noncomputable abbrev KI(K:PySem.W.Frag)(a:PySem.Addr):Prop:=PySem.W.keepIn K (.ref a)=true
namespace L2
open PySem PySem.Spec PyProof.Rows
noncomputable abbrev Key:=Sum Int Str
noncomputable def yz:Key->Value->Bool
 | .inl k,v=>Value.isInt k v
 | .inr x,v=>Value.isStrOf x v
noncomputable def qF7(w:World):Key->Int
 | .inl k=>hashInt k
 | .inr x=>hashStr w x
theorem c7:∀ {k:Key} {v:Value},yz k v=true->(∃ i t,k=Sum.inl i/\v=Value.int i t)∨(∃ x t,k=Sum.inr x/\v=Value.str x t)
 | .inl i,v,h=>by
  obtain⟨t,e⟩:=Value.isInt_shape (k:=i) (v:=v) h;exact .inl ⟨i,t,rfl,e⟩
 | .inr x,v,h=>by
  obtain⟨t,e⟩:=Value.isStrOf_shape (x:=x) (v:=v) h;exact .inr ⟨x,t,rfl,e⟩
theorem Mm(i:Int)(t:Tok):yz (.inl i) (.int i t)=true:=by simp [yz,Value.isInt]
theorem Ml(x:Str)(t:Tok):yz (.inr x) (.str x t)=true:=by simp [yz,Value.isStrOf]
theorem YX(a b:Int):decide ((Sum.inl a:Key)=Sum.inl b)=(a==b):=by
 by_cases e:a=b
 ·subst e;simp
 ·have h:¬ (Sum.inl a:Key)=Sum.inl b:=fun q=>e (Sum.inl.inj q);rw[decide_eq_false h];exact (beq_eq_false_iff_ne.mpr e).symm
theorem YS(a b:Str):decide ((Sum.inr a:Key)=Sum.inr b)=decide (a=b):=by
 by_cases e:a=b
 ·subst e;simp
 ·have h:¬ (Sum.inr a:Key)=Sum.inr b:=fun q=>e (Sum.inr.inj q);rw[decide_eq_false h,decide_eq_false e]
theorem YW(a:Int)(b:Str):decide ((Sum.inl a:Key)=Sum.inr b)=false:=decide_eq_false (fun q=>nomatch q)
theorem YT(a:Str)(b:Int):decide ((Sum.inr a:Key)=Sum.inl b)=false:=decide_eq_false (fun q=>nomatch q)
noncomputable def bW(prog:Program)(w:World):PySem.KeyKind prog w Key where
 is:=yz
 hash:=qF7 w
 inj:=fun v a b ha hb=>by
  rcases c7 ha with ⟨i,t,rfl,rfl⟩ | ⟨x,t,rfl,rfl⟩
  ·rcases c7 hb with ⟨j,u,rfl,e⟩ | ⟨y,u,rfl,e⟩
   ·injection e with e1 _;rw[e1]
   ·exact nomatch e
  ·rcases c7 hb with ⟨j,u,rfl,e⟩ | ⟨y,u,rfl,e⟩
   ·exact nomatch e
   ·injection e with e1 _;rw[e1]
 byValue:=fun k v h=>by
  rcases c7 h with ⟨i,t,rfl,rfl⟩ | ⟨x,t,rfl,rfl⟩ <;> rfl
 pyHash:=fun hv h=>by
  rcases c7 hv with ⟨i,t,rfl,rfl⟩ | ⟨x,t,rfl,rfl⟩
  ·exact wpAny_pyHash_int h
  ·exact wpAny_pyHash_str h
 eqBool:=fun hu hv h=>by
  rcases c7 hu with ⟨i,t,rfl,rfl⟩ | ⟨x,t,rfl,rfl⟩
  ·rcases c7 hv with ⟨j,u,rfl,rfl⟩ | ⟨y,u,rfl,rfl⟩
   ·rw[YX]at h;exact wpAny_eqBool_int h
   ·rw[YW]at h;exact SeqAt.EqAt.int_str i t y u _ _ _ _ h
  ·rcases c7 hv with ⟨j,u,rfl,rfl⟩ | ⟨y,u,rfl,rfl⟩
   ·rw[YT]at h;exact SeqAt.EqAt.str_int x t j u _ _ _ _ h
   ·rw[YS]at h;exact wpAny_eqBool_str h
 «strs»:=fun k x t v h=>by
  rcases c7 h with ⟨i,u,rfl,e⟩ | ⟨y,u,rfl,e⟩
  ·exact nomatch e
  ·injection e with e1 _;subst e1
   cases v <;> rfl
theorem Ep(prog:Program)(w:World)(i:Int)(t:Tok):(bW prog w).is (.inl i) (.int i t)=true:=Mm i t
theorem Eo(prog:Program)(w:World)(x:Str)(t:Tok):(bW prog w).is (.inr x) (.str x t)=true:=Ml x t
inductive V where
 | non | bl (b:Bool) | int (i:Int) | str (x:Str) | O9 (b:Array UInt8) | flt (b:UInt64) | ref (a:Addr) | ty (n:String)
 deriving DecidableEq
noncomputable def RelV:V->Value->Prop
 | .non,u=>u=Value.none
 | .bl b,u=>u=Value.bool b
 | .int i,u => ∃ t,u=Value.int i t
 | .str x,u => ∃ t,u=Value.str x t
 | .O9 b,u => ∃ t,u=Value.bytes b t
 | .flt b,u => ∃ t,u=Value.float b t
 | .ref a,u=>u=Value.ref a
 | .ty n,u=>u=Value.type n
noncomputable abbrev Vals:List V->List Value->Prop:=Paired RelV
theorem Vals.length{xs:List V}{us:List Value}(r:Vals xs us):xs.length=us.length:=Paired.length r
theorem Vals.get:∀ {xs:List V} {us:List Value} {i:Nat} {x:V},Vals xs us->xs[i]? = some x->∃ u,us[i]? = some u/\RelV x u
 | _,_,_,_,.nil,e=>by simp at e
 | _,_,0,_,.cons r _,e=>by simp at e;subst e;exact⟨_,rfl,r⟩
 | _,_,i+1,x,.cons _ t,e=>by
  obtain⟨u,h1,h2⟩:=Vals.get (i:=i) (x:=x) t (by simpa using e);exact⟨u,by simpa using h1,h2⟩
theorem Vals.set{x:V}{u:Value}(r:RelV x u):∀ {xs:List V} {us:List Value} (i:Nat),Vals xs us->Vals (xs.set i x) (us.set i u)
 | _,_,_,.nil=>.nil
 | _,_,0,.cons _ t=>.cons r t
 | _,_,i+1,.cons q t=>.cons q (Vals.set r i t)
theorem Vals.append:∀ {xs ys:List V} {us ws:List Value},Vals xs us->Vals ys ws->Vals (xs++ys) (us++ws)
 | _,_,_,_,.nil,s=>s
 | _,_,_,_,.cons r t,s=>.cons r (Vals.append t s)
theorem Vals.take:∀ {xs:List V} {us:List Value} (n:Nat),Vals xs us->Vals (xs.take n) (us.take n)
 | _,_,0,_=>.nil
 | _,_,_+1,.nil=>.nil
 | _,_,n+1,.cons r t=>.cons r (Vals.take n t)
theorem Vals.drop:∀ {xs:List V} {us:List Value} (n:Nat),Vals xs us->Vals (xs.drop n) (us.drop n)
 | _,_,0,r=>r
 | _,_,_+1,.nil=>.nil
 | _,_,n+1,.cons _ t=>Vals.drop n t
noncomputable def lg:Option V->Option Value->Prop
 | some v,some u=>RelV v u
 | none,none=>True
 | _,_=>False
noncomputable def KV{κ:Type}:List (κ×V)->List (κ×Value)->Prop:=Paired fun (p:κ×V) (q:κ×Value)=>p.1=q.1/\RelV p.2 q.2
noncomputable def kV:Key->V
 | .inl i=>.int i
 | .inr x=>.str x
inductive HO where
  | lst (xs:List V)
  | tup (xs:List V)
  | dK (kvs:List (Key×V)) | dT (kvs:List (List Key×V))
  | set (S:Int->Bool) (n:Nat)
  | ins (C dx:Addr) (fs:List (Str×V))
  | own (x:Addr)
  | xd (fs:List (Str×V))
  | met (f x:Addr)
  | rng (lo hi:Int)
  | Im (o:Obj) (u:HO)
  | W5 (ps:Array Value)
  | ext (φ:Heap->Prop)
noncomputable abbrev Hp:=Addr->Option HO
noncomputable def upd(H:Hp)(a:Addr)(o:HO):Hp:=fun b=>if b=a then some o else H b
theorem zC{H:Hp}{a:Addr}{o:HO}:upd H a o a=some o:=by unfold upd;rw[if_pos rfl]
theorem zQ{H:Hp}{a b:Addr}{o:HO}(h:b≠a):upd H a o b=H b:=by unfold upd;rw[if_neg h]
theorem bz{H:Hp}{a b:Addr}{o u:HO}(h:H a=some o)(h':H b=some u)(d:o≠u):a≠b:=by
 intro e;subst e;rw[h]at h';exact d (jO h')
theorem zM{H:Hp}{a b:Addr}{o:HO}(h:H a=some o)(h':H b=none):a≠b:=by
 intro e;subst e;rw[h]at h';cases h'
section
variable(P:Program)(w:World)
noncomputable def bL(H:Hp)(h:Heap)(a:Addr):HO->Prop
 | .lst xs=>xs.length<=sizeLine/\∃(its:List Value)(n:Nat),Vals xs its/\h.get? a=some { cls:=.type "list",data:=.seq its.toArray n }
 | .tup xs=>xs.length<=sizeLine/\∃ its:List Value,Vals xs its/\IsTup h a its.toArray
 | .dK kvs=>kvs.length<=sizeLine/\(a==sysModules)=false/\∃ vs,KV kvs vs/\h.DictOf (bW P w) a vs
 | .dT kvs=>kvs.length<=sizeLine/\(a==sysModules)=false/\∃ xs:List (List Key×Addr×Value),
   Paired (fun (p:List Key×V) (q:List Key×Addr×Value)=>p.1=q.1/\H q.2.1=some (.tup (p.1.map kV))/\RelV p.2 q.2.2) kvs xs ∧
   ∃ o es ep,h.get? a=some o/\o.ExactDict/\o.data = .dict es ep/\es.toList=xs.map (entryOfKey (tupleKind (bW P w)))/\(xs.map (·.1)).Nodup
 | .set S n=>h.SetOf (intKind P w) a S n
 | .ins C dx fs=>H dx=some (.own a)/\fs.length<=1000/\dx≠a/\h.get? a=some (PySem.W.instObj C dx) ∧
   ∃ mA,h.Ns1 dx mA/\(∀ f,lg (fs.lookup f) (mA f))/\PySem.Within mA (fs.map (·.1))
 | .own _ => ∃ o,h.get? a=some o
 | .xd fs => ∃ mA,h.Ns1 a mA/\∀ f,lg (fs.lookup f) (mA f)
 | .rng lo hi => ∃ t u v,h.get? a=some { cls:=.type "range",data:=.fields #[.int lo t,.int hi u,.int 1 v] }
 | .Im o u=>h.get? a=some o/\bL H h a u
 | .W5 ps=>h.get? a=some { cls:=.none,data:=.fields ps }
 | .met f x=>h.get? a=some (PySem.W.methodObj (.ref f) (.ref x))
 | .ext φ=>φ h/\(∃ o,h.get? a=some o)/\∀ h1 h2:Heap,φ h1->(∀ o,h1.get? a=some o->h2.get? a=some o)->φ h2
noncomputable def j6(H:Hp)(h:Heap):Prop:=∀ a o,H a=some o->bL P w H h a o
end
section
variable{P:Program}{w:World}{H H':Hp}{h h':Heap}{a:Addr}{o:HO}
theorem bL.lt(x:bL P w H h a o):a<h.objs.size:=by
 cases o with
 | lst xs=>obtain⟨_,_,_,_,e⟩:=x;exact gP e
 | tup xs=>obtain⟨_,_,_,p⟩:=x;exact p.lt
 | dK kvs=>obtain⟨_,_,_,_,o,_,_,e,_⟩:=x;exact gP e
 | dT kvs=>obtain⟨_,_,_,_,o,_,_,e,_⟩:=x;exact gP e
 | set S n=>obtain⟨o,_,_,_,e,_⟩:=x;exact gP e
 | ins C dx fs=>obtain⟨_,_,_,e,_⟩:=x;exact gP e
 | own y=>obtain⟨_,e⟩:=x;exact gP e
 | xd fs=>obtain⟨_,⟨_,_,_,e,_⟩,_⟩:=x;exact gP e
 | rng lo hi=>obtain⟨_,_,_,e⟩:=x;exact gP e
 | Im ob u=>obtain⟨e,_⟩:=x;exact gP e
 | W5 ps=>exact gP (show h.get? a=some _ from x)
 | met f y=>exact gP (show h.get? a=some _ from x)
 | ext φ=>obtain⟨_,⟨_,e⟩,_⟩:=x;exact gP e
theorem Paired.Y7{α β:Type}{F G:α->β->Prop}:∀ {l₁:List α} {l₂:List β},Paired F l₁ l₂->(∀ a b,F a b->G a b)->Paired G l₁ l₂
 | _,_,.nil,_=>.nil
 | _,_,.cons r t,f=>.cons (f _ _ r) (Paired.Y7 t f)
theorem bL.stay(x:bL P w H h a o)(k:∀ b u,(b=a∨H b=some (.own a))->h.get? b=some u->h'.get? b=some u)
  (ho:∀ b,H b=some (.own a)->H' b=some (.own a)) (ht:∀ b xs,H b=some (.tup xs)->H' b=some (.tup xs)):bL P w H' h' a o:=by
 induction o with
 | lst xs=>obtain⟨z,its,n,r,e⟩:=x;exact⟨z,its,n,r,k _ _ (.inl rfl) e⟩
 | tup xs=>obtain⟨z,its,r,ob,e,c⟩:=x;exact⟨z,its,r,ob,k _ _ (.inl rfl) e,c⟩
 | dK kvs=>obtain⟨z,y,vs,r,ob,es,ep,e,c⟩:=x;exact⟨z,y,vs,r,ob,es,ep,k _ _ (.inl rfl) e,c⟩
 | dT kvs=>
  obtain⟨z,y,xs,r,ob,es,ep,e,c⟩:=x;exact⟨z,y,xs,Paired.Y7 r fun p q z=>⟨z.1,ht _ _ z.2.1,z.2.2⟩,ob,es,ep,k _ _ (.inl rfl) e,c⟩
 | set S n=>obtain⟨ob,es,ep,t,e,c⟩:=x;exact⟨ob,es,ep,t,k _ _ (.inl rfl) e,c⟩
 | ins C dx fs=>
  obtain⟨d,z,ne,e,mA,⟨od,es,ep,e2,c⟩,r⟩:=x;exact⟨ho _ d,z,ne,k _ _ (.inl rfl) e,mA,⟨od,es,ep,k _ _ (.inr d) e2,c⟩,r⟩
 | own y=>obtain⟨ob,e⟩:=x;exact⟨ob,k _ _ (.inl rfl) e⟩
 | xd fs=>obtain⟨mA,⟨od,es,ep,e,c⟩,r⟩:=x;exact⟨mA,⟨od,es,ep,k _ _ (.inl rfl) e,c⟩,r⟩
 | rng lo hi=>obtain⟨t,u,v,e⟩:=x;exact⟨t,u,v,k _ _ (.inl rfl) e⟩
 | Im ob u ih=>obtain⟨e,q⟩:=x;exact⟨k _ _ (.inl rfl) e,ih q⟩
 | W5 ps=>
  have e:h.get? a=some { cls:=.none,data:=.fields ps }:=x;show h'.get? a=some { cls:=.none,data:=.fields ps };exact k a _ (.inl rfl) e
 | met f y=>
  have e:h.get? a=some (PySem.W.methodObj (.ref f) (.ref y)):=x;show h'.get? a=some (PySem.W.methodObj (.ref f) (.ref y));exact k a _ (.inl rfl) e
 | ext φ=>obtain⟨p,⟨o,e⟩,st⟩:=x;exact⟨st _ _ p fun o q=>k _ _ (.inl rfl) q,⟨o,k _ _ (.inl rfl) e⟩,st⟩
theorem j6.lt(x:j6 P w H h)(e:H a=some o):a<h.objs.size:=(x a o e).lt
theorem j6.fresh(x:j6 P w H h)(e:h.objs.size<=a):H a=none:=by
 cases q:H a with
 | none=>rfl
 | some u=>exact absurd (Ai (x.lt q) e) (Nat.lt_irrefl _)
theorem j6.kept(x:j6 P w H h)(k:∀ b u,h.get? b=some u->h'.get? b=some u):j6 P w H h':=fun a o e=>
 (x a o e).stay (fun b u _ q=>k b u q) (fun _ q=>q) fun _ _ q=>q
theorem j6.laid(x:j6 P w H h)(k:∀ b u,h.get? b=some u->h'.get? b=some u)(hp:h.objs.size<=a)(new:bL P w (upd H a o) h' a o):j6 P w (upd H a o) h':=fun b u e=>by
 have hn:=x.fresh hp
 by_cases hb:b=a
 ·subst hb;rw[zC]at e;cases e;exact new
 ·rw[zQ hb]at e
  exact (x b u e).stay (fun c v _ q=>k c v q) (fun c q=>by rw[zQ (zM q hn)];exact q) fun c xs q=>by rw[zQ (zM q hn)];exact q
end
noncomputable def Rd(H:Hp)(a:Addr)(u:HO):Prop:=H a=some u ∨ ∃ o,H a=some (.Im o u)
theorem Rd.ok{P:Program}{w:World}{H:Hp}{h:Heap}{a:Addr}{u:HO}(r:Rd H a u)(x:j6 P w H h):bL P w H h a u:=by
 rcases r with r | ⟨o,r⟩
 ·exact x a u r
 ·obtain⟨_,q⟩:=x a _ r;exact q
noncomputable def Mut:Option HO->Prop
 | some (.lst _)=>True
 | some (.dK _)=>True
 | some (.dT _)=>True
 | some (.set _ _)=>True
 | some (.ins _ _ _)=>True
 | some (.ext _)=>True
 | _=>False
section
variable{P:Program}{w:World}{H:Hp}{h h':Heap}{x e:Addr}{o':HO}
theorem j6.write(ok:j6 P w H h)(mu:Mut (H x))(he:e=x∨H e=some (.own x))(k:∀ b u,b≠e->h.get? b=some u->h'.get? b=some u)(heo:∃ u,h'.get? e=some u)
  (new:bL P w (upd H x o') h' x o'):j6 P w (upd H x o') h':=fun b u q=>by
 have qB3:∀ c y,H c=some (.own y)->c≠x:=fun c y r z=>by subst z;rw[r]at mu;exact mu
 have qEU:∀ c xs,H c=some (.tup xs)->c≠x:=fun c xs r z=>by subst z;rw[r]at mu;exact mu
 by_cases hb:b=x
 ·subst hb;rw[zC]at q;cases q;exact new
 ·rw[zQ hb]at q
  by_cases hbe:b=e
  ·have q':H b=some (.own x):=by
    rcases he with z | z
    ·exact absurd (hbe.trans z) hb
    ·rw[hbe];exact z
   rw[q]at q';cases q';obtain⟨v,hv⟩:=heo;exact⟨v,by rw[hbe];exact hv⟩
  ·refine (ok b u q).stay (fun c v hc r=>k c v ?_ r) (fun c r=>by rw[zQ (qB3 c b r)];exact r) fun c xs r=>by rw[zQ (qEU c xs r)];exact r
   rcases hc with rfl | hc
   ·exact hbe
   ·rintro rfl;rcases he with z | z
    ·exact qB3 c b hc z
    ·rw[hc]at z;cases z;exact hb rfl
end
structure Un(fs ex:List Addr)(H H':Hp)(h h':Heap):Prop where
 keep:∀ b o,h.get? b=some o->H b=none->b∉fs->b∉ex->h'.get? b=some o
 slot:∀ b o,h.get? b=some o->H b=none->b∈fs->b∉ex->∃ sl,h'.get? b=some { o with slots:=sl }
 free:∀ b o,h.get? b=some o->H b=none->b∉ex->H' b=none
 there:∀ b o,h.get? b=some o->b∉ex->∃ o',h'.get? b=some o'
 tups:∀ b xs,H b=some (.tup xs)->H' b=some (.tup xs)
 tH:∀ b o u,H b=some (.Im o u)->H' b=some (.Im o u)
 uJ:∀ b ps,H b=some (.W5 ps)->∃ more,H' b=some (.W5 (ps++more))
section
variable{fs fs' ex ex':List Addr}{H H1 H2:Hp}{h h1 h2 h':Heap}{a x e:Addr}{o:HO}
theorem Un.any(u:Un fs ex H H1 h h1){b:Addr}{ob:Obj}(q:h.get? b=some ob)(n:H b=none)(hx:b∉ex):∃ sl,h1.get? b=some { ob with slots:=sl }:=by
 by_cases hb:b∈fs
 ·exact u.slot b ob q n hb hx
 ·exact⟨ob.slots,u.keep b ob q n hb hx⟩
theorem Un.kept(k:∀ b u,h.get? b=some u->h'.get? b=some u):Un fs ex H H h h':=
 ⟨fun b ob q _ _ _=>k b ob q,fun b ob q _ _ _=>⟨ob.slots,k b ob q⟩,fun _ _ _ n _=>n,fun b ob q _=>⟨ob,k b ob q⟩,fun _ _ q=>q,fun _ _ _ q=>q,fun _ ps q=>⟨#[],by rw[q];simp⟩⟩
theorem Un.refl:Un fs ex H H h h:=Un.kept fun _ _ q=>q
theorem Un.laid(k:∀ b u,h.get? b=some u->h'.get? b=some u)(hp:h.objs.size<=a)(hn:H a=none):Un fs ex H (upd H a o) h h' where
 keep:=fun b u q _ _ _=>k b u q
 slot:=fun b u q _ _ _=>⟨u.slots,k b u q⟩
 free:=fun b u q n _=>by rw[zQ (kI (Ai (gP q) hp))];exact n
 there:=fun b u q _=>⟨u,k b u q⟩
 tups:=fun b xs q=>by rw[zQ (zM q hn)];exact q
 tH:=fun b u xs q=>by rw[zQ (zM q hn)];exact q
 uJ:=fun b ps q=>⟨#[],by rw[zQ (zM q hn),q];simp⟩
theorem Un.write(mu:Mut (H x))(he:e=x∨H e=some (.own x))(k:∀ b u,b≠e->h.get? b=some u->h'.get? b=some u)(heo:∃ u,h'.get? e=some u):Un fs ex H (upd H x o) h h':=by
 have hx:∀ b,H b=none->b≠x:=fun b n z=>by subst z;rw[n]at mu;exact mu
 have hb:∀ b,H b=none->b≠e:=fun b n z=>by
  subst z;rcases he with r | r
  ·exact hx b n r
  ·rw[n]at r;cases r
 have hm:∀ b u,H b=some u->¬ Mut (some u)->b≠x:=fun b u q nm z=>by subst z;rw[q]at mu;exact nm mu
 refine⟨fun b u q n _ _=>k b u (hb b n) q,fun b u q n _ _=>⟨u.slots,k b u (hb b n) q⟩,fun b u q n _=>by rw[zQ (hx b n)];exact n,fun b u q _=>?_,
  fun b xs q=>by rw[zQ (hm b _ q fun z=>z)];exact q,fun b u xs q=>by rw[zQ (hm b _ q fun z=>z)];exact q,fun b ps q=>⟨#[],by rw[zQ (hm b _ q fun z=>z),q];simp⟩⟩
 by_cases hbe:b=e
 ·subst hbe;exact heo
 ·exact⟨u,k b u hbe q⟩
end
noncomputable def trk(h:Heap)(H:Hp):List Addr:=(List.range h.objs.size).filter fun a=>(H a).isSome
noncomputable def Bq(h:Heap)(H:Hp):Heap:=PySem.W.hideAll h (trk h H)
theorem Mv(h:Heap)(H:Hp):(Bq h H).objs.size=h.objs.size:=PySem.W.hideAll_size _ _
theorem RD{h:Heap}{H:Hp}{b:Addr}{o:Obj}(e:h.get? b=some o)(n:H b=none):(Bq h H).get? b=some o:=
 PySem.W.hideAll_get _ e fun hm=>by
  have q:(H b).isSome=true:=(lW.mp hm).2;rw[n]at q;simp at q
theorem VG{h:Heap}{H:Hp}{b:Addr}{o:Obj}(e:(Bq h H).get? b=some o):h.get? b=some o/\H b=none:=by
 have e':h.get? b=some o:=PySem.W.of_hideAll (trk h H) e;refine⟨e',?_⟩
 cases q:H b with
 | none=>rfl
 | some x=>
  have hm:b∈trk h H:=List.mem_filter.mpr ⟨List.mem_range.mpr (Heap.lt_size e'),by simp [q]⟩;have z:(Bq h H).get? b=none:=PySem.W.hideAll_none (trk h H) hm;rw[z]at e;cases e
noncomputable def Vu(g h:Heap)(L:Addr):List (Addr×Obj):=(List.range h.objs.size).filterMap fun a=>if a=L∨(g.get? a).isSome=true then none else (h.get? a).map fun o=>(a,o)
noncomputable def rest(g h:Heap)(L d:Addr):List (Addr×Obj):=(Vu g h L).filter fun p=>decide (p.1≠d)
structure Mod(K:bO)(mg:Str->Option Value)(base:Heap):Prop where
 YQ:K.In base
 glob:base.Ns mainGlobals mg
 blt:∃ mb,base.Ns builtinsNs mb/\∀ x:Str,x ≠ "__name__" -> mb x=bootBuiltins x
 nolimit:base.NoLimit
structure Cx where
 prog:Program
 w:World
 K:bO
 mg:Str->Option Value
 base:Heap
 A:Around
 N:List Str
 s₀:Shared
 H₀:Hp
 env:Env
 outer:List Env
 stack:List Env
 ex:List Addr
 fn:Str->Bool
 calm:Bool
 pn:List (Addr×Obj)
 xe:Value->Shared->Prop
noncomputable def frs(l:List Env):List Addr:=l.filterMap (·.frame)
noncomputable abbrev Cx.fs(X:Cx):List Addr:=frs X.outer
noncomputable def Vis(sc:Scope)(x:Str):Prop:=sc.names.lookup x=some .local∨sc.names.lookup x=some .cell∨sc.names.lookup x=some .free
noncomputable def Loc(sc:Scope)(x:Str):Prop:=sc.names.lookup x=some .local∨sc.names.lookup x=some .cell
noncomputable def Look(env:Env)(h:Heap)(m:Str->Option Value)(x:Str)(u:Value):Prop:=
 (env.kindOf x=some .local/\m x=some u)∨((env.kindOf x=some .cell∨env.kindOf x=some .free)/\∃ c,env.cells.lookup x=some c/\h.IsCell c (some u))
structure Cx.Ok(X:Cx):Prop where
 mod:Mod X.K X.mg X.base
 kind:X.env.scope.kind = .function
 glob:X.env.globals=mainGlobals
 blt:X.env.builtins=builtinsNs
 above:X.s₀.heap.objs.size<=X.env.locals
 inj:∀ x y c,X.env.cells.lookup x=some c->X.env.cells.lookup y=some c->x=y
 has:∀ x,(X.env.kindOf x=some .cell∨X.env.kindOf x=some .free)->∃ c,X.env.cells.lookup x=some c
 cab:∀ x c,X.fn x=true->X.env.cells.lookup x=some c->X.s₀.heap.objs.size<=c
 hd:X.calm=true->X.A.handled=none
 frames:X.A.frames=some X.stack
 stk:X.stack=X.outer∨(X.stack=X.env::X.outer/\X.env.frame=some X.env.locals)
 exf:∀ b∈X.ex,b≠X.env.locals/\∀ x c,X.env.cells.lookup x=some c->c≠b
 bs:∀ b o,X.base.get? b=some o->X.s₀.heap.get? b=some o/\X.H₀ b=none
 OD:X.base.objs.size<=X.s₀.heap.objs.size
 Hw:∀ b o,X.base.get? b=some o->b∉X.ex
 Rf:∀ b∈X.ex,b∉X.fs
 qw:X.s₀.heap.FunFrames X.base X.outer
 Vh:∀ b∈X.fs,X.H₀ b=none
structure Inv(X:Cx)(pins:List (Addr×Obj))(σ:List (Option V))(H:Hp)(s:Shared):Prop where
 ok:X.Ok
 os:s.os=X.s₀.os
 bare:AllBare s.gens
 base:Un X.fs X.ex X.H₀ H X.s₀.heap s.heap
 loc:∃ m,s.heap.Ns X.env.locals m/\∀(i:Nat)(x:Str)(v:V),X.N[i]? = some x->σ[i]? = some (some v)->Vis X.env.scope x->∃ u,RelV v u/\Look X.env s.heap m x u
 cell:∀ x c,X.env.cells.lookup x=some c->∃ v,s.heap.IsCell c v
 free:H X.env.locals=none
 jH:∀ x c,X.env.cells.lookup x=some c->H c=none
 pin:∀ p∈X.pn++pins,s.heap.get? p.1=some p.2/\H p.1=none/\p.1≠X.env.locals/\p.1∉X.fs/\∀ v,p.2.data≠.cell v
 hok:j6 X.prog X.w H s.heap
 len:σ.length=X.N.length
section
variable{X:Cx}{pins:List (Addr×Obj)}{σ:List (Option V)}{H H':Hp}{s:Shared}{h':Heap}
theorem Cx.Ok.qEY(ok:X.Ok){b:Addr}{o:Obj}(e:X.base.get? b=some o):b∉X.fs:=fun hb=>by
 have:=(ok.qw.mem hb).1;rw[e]at this;cases this
theorem Inv.bs(I:Inv X pins σ H s):∀ b o,X.base.get? b=some o->s.heap.get? b=some o/\H b=none:=fun b o e=>
 ⟨I.base.keep b o (I.ok.bs b o e).1 (I.ok.bs b o e).2 (I.ok.qEY e) (I.ok.Hw b o e),I.base.free b o (I.ok.bs b o e).1 (I.ok.bs b o e).2 (I.ok.Hw b o e)⟩
theorem Inv.bk(I:Inv X pins σ H s):∀ b o,X.base.get? b=some o->s.heap.get? b=some o:=fun b o e=>(I.bs b o e).1
theorem Inv.mod(I:Inv X pins σ H s):Mod X.K X.mg X.base:=I.ok.mod
theorem Inv.lq(I:Inv X pins σ H s):X.K.In s.heap:=I.ok.mod.YQ.keeps I.bk
theorem Inv.lt(I:Inv X pins σ H s):X.env.locals<s.heap.objs.size:=let ⟨_,hn,_⟩:=I.loc;hn.lt
theorem Inv.sz(I:Inv X pins σ H s):X.s₀.heap.objs.size<=s.heap.objs.size:=Nat.le_trans I.ok.above (Nat.le_of_lt I.lt)
theorem Inv.qEX(I:Inv X pins σ H s){a:Addr}(h:s.heap.objs.size<=a):a∉X.fs:=fun hb=>by
 obtain⟨_,o,ho,_⟩:=I.ok.qw.mem hb;exact absurd (Ai (gP ho) (Nat.le_trans I.sz h)) (Nat.lt_irrefl _)
theorem Inv.Z0(I:Inv X pins σ H s):∀ x c,X.env.cells.lookup x=some c->c≠X.env.locals:=fun x c e z=>by
 obtain⟨v,o,ho,hd⟩:=I.cell x c e;obtain⟨m,⟨o',es,ep,ho',hd',_⟩,_⟩:=I.loc;rw[z,ho']at ho;cases ho;rw[hd']at hd;cases hd
theorem Inv.qw(I:Inv X pins σ H s):s.heap.FunFrames X.base X.outer:=by
 have all:∀(l:List Env),(∀ b∈frs l,b∈X.fs)->X.s₀.heap.FunFrames X.base l->s.heap.FunFrames X.base l:=by
  intro l
  induction l with
  | nil=>intro _ _;trivial
  | cons env r ih=>
   intro hs hl;obtain⟨hk,⟨L,o,hf,hn,ho,hd⟩,hr⟩:=hl;have hL:L∈X.fs:=hs L (by unfold frs;rw[List.filterMap_cons,hf];exact Cu);obtain⟨sl,e⟩:=I.base.slot L o ho (I.ok.Vh L hL) hL fun z=>I.ok.Rf L z hL;exact⟨hk,⟨L,_,hf,hn,e,hd⟩,ih (fun b hb=>hs b (by unfold frs;rw[List.filterMap_cons,hf];exact GQ _ hb)) hr⟩
 exact all X.outer (fun _ hb=>hb) I.ok.qw
theorem Inv.stack(I:Inv X pins σ H s):s.heap.FunFrames X.base X.stack:=by
 rcases I.ok.stk with e | ⟨e,hf⟩
 ·rw[e];exact I.qw
 ·rw[e];obtain⟨m,hn,_⟩:=I.loc;refine .cons (by rw[I.ok.kind];decide) hf hn ?_ I.qw;exact Heap.get?_none_of_le (Nat.le_trans I.ok.OD I.ok.above)
theorem Inv.Gn(I:Inv X pins σ H s):∀ b∈frs X.stack,b∈X.env.locals::X.fs:=fun b hb=>by
 rcases I.ok.stk with e | ⟨e,hf⟩
 ·rw[e]at hb;exact GQ _ hb
 ·rw[e]at hb;unfold frs at hb;rw[List.filterMap_cons,hf]at hb;exact hb
theorem Inv.qD(I:Inv X pins σ H s):∀ b∈frs X.stack,H b=none:=fun b hb=>by
 rcases bI.mp (I.Gn b hb) with e | hb
 ·rw[e];exact I.free
 ·obtain⟨_,o,ho,_⟩:=I.ok.qw.mem hb;exact I.base.free b o ho (I.ok.Vh b hb) fun z=>I.ok.Rf b z hb
theorem Inv.step{g':Array GenState}{t':Nat}{d':Drawn}{ch:List Addr}(I:Inv X pins σ H s)
  (hch:∀ b∈ch,(b∈X.ex∨X.s₀.heap.objs.size<=b)/\b≠X.env.locals/\(∀ x c,X.env.cells.lookup x=some c->c≠b)/\∀ p∈X.pn++pins,p.1≠b)
  (keep:∀ b o,b≠X.env.locals->b∉X.fs->b∉ch->s.heap.get? b=some o->H b=none->h'.get? b=some o)
  (slot:∀ b o,b≠X.env.locals->b∈X.fs->b∉ch->s.heap.get? b=some o->H b=none->∃ sl,h'.get? b=some { o with slots:=sl }) (free:∀ b o,b∉ch->s.heap.get? b=some o->H b=none->H' b=none)
  (there:∀ b o,b∉ch->s.heap.get? b=some o->∃ o',h'.get? b=some o')
  (tups:∀ b xs,H b=some (.tup xs)->H' b=some (.tup xs)) (tH:∀ b o u,H b=some (.Im o u)->H' b=some (.Im o u)) (uJ:∀ b ps,H b=some (.W5 ps)->∃ more,H' b=some (.W5 (ps++more)))
  (ns:∀ m,s.heap.Ns X.env.locals m->h'.Ns X.env.locals m) (hok:j6 X.prog X.w H' h') (hg:AllBare g') :
  Inv X pins σ H' { s with heap:=h',gens:=g',drawn:=d',toks:=t' }:=by
 have neL:∀ b o,X.s₀.heap.get? b=some o->b≠X.env.locals:=fun b o e=>kI (Ai (gP e) I.ok.above)
 have ZW:∀ b o,X.s₀.heap.get? b=some o->b∉X.ex->b∉ch:=fun b o e hx hb=>by
  rcases (hch b hb).1 with z | z
  ·exact hx z
  ·exact absurd (Ai (gP e) z) (Nat.lt_irrefl _)
 have cellK:∀ x c,X.env.cells.lookup x=some c->∀ v,s.heap.IsCell c v->h'.IsCell c v:=fun x c e v ⟨o,ho,hd⟩=>by
  have nch:c∉ch:=fun z=>(hch c z).2.2.1 x c e rfl
  by_cases hc:c∈X.fs
  ·obtain⟨sl,q⟩:=slot c o (I.Z0 x c e) hc nch ho (I.jH x c e);exact⟨_,q,hd⟩
  ·exact⟨o,keep c o (I.Z0 x c e) hc nch ho (I.jH x c e),hd⟩
 refine⟨I.ok,I.os,hg,⟨fun b o e n hb hx=>?_,fun b o e n hb hx=>?_,fun b o e n hx=>?_,fun b o e hx=>?_,fun b xs e=>tups b xs (I.base.tups b xs e),fun b o xs e=>tH b o xs (I.base.tH b o xs e),fun b ps e=>?_⟩,?_,fun x c e=>?_,?_,fun x c e=>?_,fun p hp=>?_,hok,I.len⟩
 ·exact keep b o (neL b o e) hb (ZW b o e hx) (I.base.keep b o e n hb hx) (I.base.free b o e n hx)
 ·obtain⟨sl,e1⟩:=I.base.slot b o e n hb hx;obtain⟨sl',e2⟩:=slot b _ (neL b o e) hb (ZW b o e hx) e1 (I.base.free b o e n hx);exact⟨sl',e2⟩
 ·obtain⟨o',e1⟩:=I.base.there b o e hx;exact free b o' (ZW b o e hx) e1 (I.base.free b o e n hx)
 ·obtain⟨o',e1⟩:=I.base.there b o e hx;exact there b o' (ZW b o e hx) e1
 ·obtain⟨m1,e1⟩:=I.base.uJ b ps e;obtain⟨m2,e2⟩:=uJ b _ e1;exact⟨m1++m2,by rw[e2,Array.append_assoc]⟩
 ·obtain⟨m,hn,hl⟩:=I.loc;refine⟨m,ns m hn,fun i x v e1 e2 e3=>?_⟩;obtain⟨u,r,l⟩:=hl i x v e1 e2 e3;refine⟨u,r,?_⟩;rcases l with l | ⟨k,c,e,z⟩
  ·exact .inl l
  ·exact .inr ⟨k,c,e,cellK x c e _ z⟩
 ·obtain⟨v,z⟩:=I.cell x c e;exact⟨v,cellK x c e v z⟩
 ·obtain⟨m,⟨o,_,_,ho,_⟩,_⟩:=I.loc;exact free _ o (fun z=>(hch _ z).2.1 rfl) ho I.free
 ·obtain⟨v,o,ho,hd⟩:=I.cell x c e;exact free c o (fun z=>(hch c z).2.2.1 x c e rfl) ho (I.jH x c e)
 ·obtain⟨e,n,ne,nf,d⟩:=I.pin p hp;have nch:p.1∉ch:=fun z=>(hch p.1 z).2.2.2 p hp rfl;exact⟨keep p.1 p.2 ne nf nch e n,free p.1 p.2 nch e n,ne,nf,d⟩
theorem Inv.un{t':Nat}(I:Inv X pins σ H s)(u:Un X.fs [] H H' s.heap h')(hok:j6 X.prog X.w H' h'):Inv X pins σ H' { s with heap:=h',toks:=t' }:=by
 obtain⟨m,⟨o,es,ep,ho,r⟩,_⟩:=id I.loc;obtain⟨sl,hL⟩:=u.any ho I.free (by simp)
 exact I.step (g':=s.gens) (d':=s.drawn) (ch:=[]) (fun _ z=>nomatch z) (fun b o _ hb _ e n=>u.keep b o e n hb (by simp)) (fun b o _ hb _ e n=>u.slot b o e n hb (by simp)) (fun b o _ e n=>u.free b o e n (by simp)) (fun b o _ e=>u.there b o e (by simp)) u.tups u.tH u.uJ (fun m' hm=>by
  obtain⟨o',es',ep',ho',r'⟩:=hm;rw[ho]at ho';cases ho'
  exact⟨_,es',ep',hL,r'⟩) hok I.bare
theorem Inv.call{g':Array GenState}{t':Nat}{d':Drawn}{ch:List Addr}(I:Inv X pins σ H s)(u:Un (frs X.stack) ch H H' s.heap h')(hok:j6 X.prog X.w H' h')(hg:AllBare g')
  (hch:∀ b∈ch,(b∈X.ex∨X.s₀.heap.objs.size<=b)/\b≠X.env.locals/\(∀ x c,X.env.cells.lookup x=some c->c≠b)/\∀ p∈X.pn++pins,p.1≠b) :
  Inv X pins σ H' { s with heap:=h',gens:=g',drawn:=d',toks:=t' }:=by
 obtain⟨m,⟨o,es,ep,ho,r⟩,_⟩:=id I.loc;obtain⟨sl,hL⟩:=u.any ho I.free fun z=>(hch _ z).2.1 rfl
 exact I.step (ch:=ch) hch (fun b o hL hb hc e n=>u.keep b o e n (fun z=>(bI.mp (I.Gn b z)).elim hL hb) hc) (fun b o _ _ hc e n=>u.any e n hc) (fun b o hc e n=>u.free b o e n hc) (fun b o hc e=>u.there b o e hc) u.tups u.tH u.uJ (fun m' hm=>by
  obtain⟨o',es',ep',ho',r'⟩:=hm;rw[ho]at ho';cases ho'
  exact⟨_,es',ep',hL,r'⟩) hok hg
theorem Inv.turned{t':Nat}{it:Addr}(I:Inv X pins σ H s)(k:∀ b o,b≠it->s.heap.get? b=some o->h'.get? b=some o)(hn:H it=none)(hL:it≠X.env.locals)
  (h1:it∈X.ex∨X.s₀.heap.objs.size<=it) (h2:∀ x c,X.env.cells.lookup x=some c->c≠it) (h3:∀ p∈X.pn++pins,p.1≠it):Inv X pins σ H { s with heap:=h',toks:=t' }:=by
 have nit:∀ b u,H b=some u->b≠it:=fun b u e z=>by rw[z,hn]at e;cases e
 refine I.step (g':=s.gens) (d':=s.drawn) (ch:=[it]) (fun b hb=>?_) (fun b o _ _ hc e _=>k b o (fun z=>hc (by simp [z])) e) (fun b o _ _ hc e _=>⟨o.slots,k b o (fun z=>hc (by simp [z])) e⟩) (fun _ _ _ _ n=>n)
  (fun b o hc e=>⟨o,k b o (fun z=>hc (by simp [z])) e⟩) (fun _ _ e=>e) (fun _ _ _ e=>e) (fun b ps e=>⟨#[],by rw[e];simp⟩) (fun m hm=>?_) (fun b u e=>?_) I.bare
 ·have e:b=it:=by simpa using hb
  subst e;exact⟨h1,hL,h2,h3⟩
 ·obtain⟨o,es,ep,ho,r⟩:=hm;exact⟨o,es,ep,k _ o (Ne.symm hL) ho,r⟩
 ·refine (I.hok b u e).stay (fun c v hc q=>k c v ?_ q) (fun _ q=>q) fun _ _ q=>q;rcases hc with z | z
  ·rw[z];exact nit b u e
  ·exact nit c _ z
theorem Inv.tok(I:Inv X pins σ H s)(t:Nat):Inv X pins σ H { s with toks:=t }:=I.un (h':=s.heap) (t':=t) Un.refl I.hok
theorem Inv.kept{t':Nat}(I:Inv X pins σ H s)(k:∀ b u,s.heap.get? b=some u->h'.get? b=some u):Inv X pins σ H { s with heap:=h',toks:=t' }:=I.un (Un.kept k) (I.hok.kept k)
theorem Inv.laid{a:Addr}{o:HO}{t':Nat}(I:Inv X pins σ H s)(k:∀ b u,s.heap.get? b=some u->h'.get? b=some u)(hp:s.heap.objs.size<=a)(new:bL X.prog X.w (upd H a o) h' a o) :
  Inv X pins σ (upd H a o) { s with heap:=h',toks:=t' }:=I.un (Un.laid k hp (I.hok.fresh hp)) (I.hok.laid k hp new)
theorem Inv.write{x e:Addr}{o:HO}{t':Nat}(I:Inv X pins σ H s)(mu:Mut (H x))(he:e=x∨H e=some (.own x))(k:∀ b u,b≠e->s.heap.get? b=some u->h'.get? b=some u)(heo:∃ u,h'.get? e=some u)
  (new:bL X.prog X.w (upd H x o) h' x o):Inv X pins σ (upd H x o) { s with heap:=h',toks:=t' }:=I.un (Un.write mu he k heo) (I.hok.write mu he k heo new)
theorem Inv.qY{WM:List (Addr×Obj)}(I:Inv X pins σ H s)(h:∀ p∈WM,s.heap.get? p.1=some p.2/\H p.1=none/\p.1≠X.env.locals/\p.1∉X.fs/\∀ v,p.2.data≠.cell v):Inv X WM σ H s:=
 ⟨I.ok,I.os,I.bare,I.base,I.loc,I.cell,I.free,I.jH,fun p hp=>(cX.mp hp).elim (fun z=>I.pin p (List.mem_append_left _ z)) (h p),I.hok,I.len⟩
theorem Ei{N:List Str}(hN:N.Nodup){i j:Nat}{x:Str}(a:N[i]? = some x)(b:N[j]? = some x):i=j:=by
 obtain⟨h1,e1⟩:=lQ.mp a;obtain⟨h2,e2⟩:=lQ.mp b;exact (List.getElem_inj hN).mp (e1.trans e2.symm)
theorem rZ{M:Model}{A:Around}{E:Value->Shared->Prop}{i:Nat}{x:Str}{v:V}{u:Value}{Q:Unit->Shared->Prop}(I:Inv X pins σ H s)(hN:X.N.Nodup)(hi:X.N[i]? = some x)(hx:Loc X.env.scope x)(r:RelV v u)
  (h:∀ s',Inv X pins (σ.set i (some v)) H s'->(∃ a,Heap.SameBut a s.heap s'.heap/\(a=X.env.locals∨X.env.cells.lookup x=some a))->Q () s') (hf:X.fn x=true∨X.env.scope.names.lookup x=some .local:=by first | exact .inl rfl | exact .inr rfl | assumption):wpAny M A (storeName X.env x u) Q E s:=by
 obtain⟨m,hn,hl⟩:=id I.loc
 have hcls:(X.env.scope.kind==.class||(X.env.scope.kind==.module&&X.env.locals != X.env.globals))=false:=by rw[I.ok.kind];rfl
 have hiσ:i<σ.length:=by rw[I.len];exact (lQ.mp hi).1
 have Z0:=I.Z0
 have tracked:∀ {a:Addr} {h':Heap},(∃ o,s.heap.get? a=some o/\H a=none)->Heap.SameBut a s.heap h'->j6 X.prog X.w H h':=fun {a h'} ha hs b ob e=>by
  obtain⟨_,_,hfree⟩:=ha;refine (I.hok b ob e).stay (fun c w' hc q=>(hs.2 c ?_).trans q) (fun _ q=>q) fun _ _ q=>q;rintro rfl;rcases hc with rfl | hc
  ·rw[hfree]at e;cases e
  ·rw[hfree]at hc;cases hc
 rcases hx with hk | hk
 ·refine wpAny_storeName_local hk hn (fun h' hn' hs=>?_) hcls;obtain⟨oL,_,_,hoL,_⟩:=id hn;refine h _ ⟨I.ok,I.os,I.bare,⟨fun b o e n hb hx=>?_,fun b o e n hb hx=>?_,I.base.free,fun b o e hx=>?_,I.base.tups,I.base.tH,I.base.uJ⟩,⟨_,hn',fun j y v' e1 e2 e3=>?_⟩,fun y c e=>?_,I.free,I.jH,fun p hp=>?_,tracked ⟨oL,hoL,I.free⟩ hs,by simpa using I.len⟩ ⟨_,hs,.inl rfl⟩
  ·exact (hs.2 b (kI (Ai (gP e) I.ok.above))).trans (I.base.keep b o e n hb hx)
  ·obtain⟨sl,e1⟩:=I.base.slot b o e n hb hx;exact⟨sl,(hs.2 b (kI (Ai (gP e) I.ok.above))).trans e1⟩
  ·obtain⟨o',e1⟩:=I.base.there b o e hx;exact⟨o',(hs.2 b (kI (Ai (gP e) I.ok.above))).trans e1⟩
  ·by_cases hj:j=i
   ·subst hj;rw[hi]at e1;cases e1;rw[List.getElem?_set_self hiσ]at e2
    cases e2
    exact⟨u,r,.inl ⟨hk,by simp⟩⟩
   ·rw[List.getElem?_set_ne (Ne.symm hj)]at e2;obtain⟨u',r',q⟩:=hl j y v' e1 e2 e3;refine⟨u',r',?_⟩;rcases q with ⟨k,e⟩ | ⟨k,c,e,z⟩
    ·refine .inl ⟨k,?_⟩;have:y≠x:=fun e=>hj (Ei hN e1 (e▸hi));simp [this,e]
    ·exact .inr ⟨k,c,e,z.sameBut hs (Z0 y c e)⟩
  ·obtain⟨w',z⟩:=I.cell y c e;exact⟨w',z.sameBut hs (Z0 y c e)⟩
  ·obtain⟨e,n,ne,nf,d⟩:=I.pin p hp;exact⟨(hs.2 p.1 ne).trans e,n,ne,nf,d⟩
 ·have hfn:X.fn x=true:=by
   rcases hf with z | z
   ·exact z
   ·rw[z]at hk;cases hk
  obtain⟨c,hc⟩:=I.ok.has x (.inl hk);obtain⟨w',z⟩:=I.cell x c hc;refine wpAny_storeName_cell I.ok.kind hk hc z (fun h' hc' hs=>?_);obtain⟨oc,hoc,qFY⟩:=id z;refine h { s with heap:=h' } ⟨I.ok,I.os,I.bare,⟨fun b o e n hb hx=>?_,fun b o e n hb hx=>?_,I.base.free,fun b o e hx=>?_,I.base.tups,I.base.tH,I.base.uJ⟩,⟨m,hn.sameBut hs (Ne.symm (Z0 x c hc)),fun j y v' e1 e2 e3=>?_⟩,fun y c' e=>?_,I.free,I.jH,fun p hp=>?_,tracked ⟨oc,hoc,I.jH x c hc⟩ hs,by simpa using I.len⟩ ⟨c,hs,.inr hc⟩
  ·exact (hs.2 b (kI (Ai (gP e) (I.ok.cab x c hfn hc)))).trans (I.base.keep b o e n hb hx)
  ·obtain⟨sl,e1⟩:=I.base.slot b o e n hb hx;exact⟨sl,(hs.2 b (kI (Ai (gP e) (I.ok.cab x c hfn hc)))).trans e1⟩
  ·obtain⟨o',e1⟩:=I.base.there b o e hx;exact⟨o',(hs.2 b (kI (Ai (gP e) (I.ok.cab x c hfn hc)))).trans e1⟩
  ·by_cases hj:j=i
   ·subst hj;rw[hi]at e1;cases e1;rw[List.getElem?_set_self hiσ]at e2
    cases e2
    exact⟨u,r,.inr ⟨.inl hk,c,hc,hc'⟩⟩
   ·rw[List.getElem?_set_ne (Ne.symm hj)]at e2;obtain⟨u',r',q⟩:=hl j y v' e1 e2 e3;refine⟨u',r',?_⟩;rcases q with q | ⟨k,c',e,z'⟩
    ·exact .inl q
    ·refine .inr ⟨k,c',e,z'.sameBut hs ?_⟩;rintro rfl;exact hj (Ei hN e1 (I.ok.inj _ _ _ e hc▸hi))
  ·by_cases hcc:c'=c
   ·subst hcc;exact⟨_,hc'⟩
   ·obtain⟨w2,z2⟩:=I.cell y c' e;exact⟨w2,z2.sameBut hs hcc⟩
  ·obtain⟨e,n,ne,nf,d⟩:=I.pin p hp;refine⟨(hs.2 p.1 ?_).trans e,n,ne,nf,d⟩;intro q;rw[q,hoc]at e;have q':oc=p.2:=jO e;exact d w' (by rw[<-q'];exact qFY)
theorem mC{M:Model}{A:Around}{E:Value->Shared->Prop}{i:Nat}{x:Str}{v:V}{u:Value}{Q:Unit->Shared->Prop}(I:Inv X pins σ H s)(hN:X.N.Nodup)(hi:X.N[i]? = some x)(hx:Loc X.env.scope x)(r:RelV v u)
  (h:∀ s',Inv X pins (σ.set i (some v)) H s'->Q () s') (hf:X.fn x=true∨X.env.scope.names.lookup x=some .local:=by first | exact .inl rfl | exact .inr rfl | assumption):wpAny M A (storeName X.env x u) Q E s:=
 rZ I hN hi hx r (fun s' I' _=>h s' I') hf
theorem Inv.call'{s':Shared}{ch:List Addr}(I:Inv X pins σ H s)(ho:s'.os=s.os)(u:Un (frs X.stack) ch H H' s.heap s'.heap)(hok:j6 X.prog X.w H' s'.heap)(hg:AllBare s'.gens)
  (hch:∀ b∈ch,(b∈X.ex∨X.s₀.heap.objs.size<=b)/\b≠X.env.locals/\(∀ x c,X.env.cells.lookup x=some c->c≠b)/\∀ p∈X.pn++pins,p.1≠b):Inv X pins σ H' s':=by
 obtain⟨h',g',d',t',o'⟩:=s';have e:o'=s.os:=ho;subst e;exact I.call (g':=g') (t':=t') (d':=d') u hok hg hch
end
noncomputable abbrev XK:=Value->Option Addr->Hp->Prop
noncomputable abbrev St:=List (Option V)
noncomputable abbrev VK:=V->Hp->Prop
noncomputable abbrev TE:=St->Hp->VK->Prop
noncomputable abbrev TT:=St->Hp->(Bool->Hp->Prop)->Prop
noncomputable abbrev TA:=St->Hp->(List V->Hp->Prop)->Prop
structure Ends where
 nx:St->Hp->Prop
 rt:VK
 bk:St->Hp->Prop:=fun _ _=>False
 ct:St->Hp->Prop:=fun _ _=>False
noncomputable abbrev TS:=Ends->St->Hp->Prop
noncomputable def EP(X:Cx)(pins:List (Addr×Obj))(σ:St)(Q:VK)(u:Value)(s':Shared):Prop:=∃ v H',Inv X pins σ H' s'/\RelV v u/\Q v H'
noncomputable def TP(X:Cx)(pins:List (Addr×Obj))(σ:St)(Q:Bool->Hp->Prop)(b:Bool)(s':Shared):Prop:=∃ H',Inv X pins σ H' s'/\Q b H'
noncomputable def AP(X:Cx)(pins:List (Addr×Obj))(σ:St)(Q:List V->Hp->Prop)(us:List Value)(s':Shared):Prop:=∃ vs H',Inv X pins σ H' s'/\Vals vs us/\Q vs H'
noncomputable def SP(X:Cx)(pins:List (Addr×Obj))(D:Ends)(f:Flow)(s':Shared):Prop:=
 match f with
 | .next => ∃ σ' H',Inv X pins σ' H' s'/\D.nx σ' H'
 | .brk => ∃ σ' H',Inv X pins σ' H' s'/\D.bk σ' H'
 | .cont => ∃ σ' H',Inv X pins σ' H' s'/\D.ct σ' H'
 | .ret u => ∃ v σ' H',Inv X pins σ' H' s'/\RelV v u/\D.rt v H'
noncomputable def PE(X:Cx)(e:Expr)(t:TE):Prop:=
 ∀(pins:List (Addr×Obj))(s:Shared)(σ:St)(H:Hp)(Q:VK),Inv X pins σ H s->t σ H Q->wpAny (model X.prog X.w) X.A (eval e X.env) (EP X pins σ Q) X.xe s
noncomputable def PT(X:Cx)(e:Expr)(t:TT):Prop:=
 ∀(pins:List (Addr×Obj))(s:Shared)(σ:St)(H:Hp)(Q:Bool->Hp->Prop),Inv X pins σ H s->t σ H Q->wpAny (model X.prog X.w) X.A (isTrue e X.env (eval e X.env)) (TP X pins σ Q) X.xe s
noncomputable def PW(X:Cx)(e:Expr)(t:TT):Prop:=
 ∀(whole:Sem Value)(pins:List (Addr×Obj))(s:Shared)(σ:St)(H:Hp)(Q:Bool->Hp->Prop),Inv X pins σ H s->t σ H Q->wpAny (model X.prog X.w) X.A (isTrue e X.env whole) (TP X pins σ Q) X.xe s
theorem PW.pt{X:Cx}{e:Expr}{t:TT}(h:PW X e t):PT X e t:=h _
noncomputable def PA(X:Cx)(es:List Expr)(t:TA):Prop:=
 ∀(pos:Pos)(pins:List (Addr×Obj))(s:Shared)(σ:St)(H:Hp)(Q:List V->Hp->Prop),Inv X pins σ H s->t σ H Q->wpAny (model X.prog X.w) X.A (spliced (backTo pos (starEach es X.env))) (AP X pins σ Q) X.xe s
noncomputable def PS(X:Cx)(st:Stmt)(t:TS):Prop:=
 ∀(pins:List (Addr×Obj))(s:Shared)(σ:St)(H:Hp)(D:Ends),Inv X pins σ H s->t D σ H->wpAny (model X.prog X.w) X.A (exec st X.env) (SP X pins D) X.xe s
noncomputable def Ac(X:Cx)(st:List Stmt)(t:TS):Prop:=
 ∀(pins:List (Addr×Obj))(s:Shared)(σ:St)(H:Hp)(D:Ends),Inv X pins σ H s->t D σ H->wpAny (model X.prog X.w) X.A (execs st X.env) (SP X pins D) X.xe s
theorem au{α:Type}{t:Sem α}{Q Q':α->Shared->Prop}{M:Model}{A:Around}{E:Value->Shared->Prop}{s:Shared}(h:wpAny M A t Q E s)(hQ:∀ a s,Q a s->Q' a s):wpAny M A t Q' E s:=wpAny_mono h hQ fun _ _ x=>x
section
variable{X:Cx}
noncomputable def Cz(i:Nat):TE:=fun σ H Q => ∃ v,σ[i]? = some (some v)/\Q v H
noncomputable def tC(v:V):TE:=fun _ H Q=>Q v H
theorem Xe{i:Nat}{x:Str}{pos:Pos}(hN:X.N[i]? = some x)(hv:Vis X.env.scope x)(hd:(x==("__debug__" : Str))=false:=by decide)(hcd:(x==("__classdict__" : Str))=false:=by decide):PE X (.Name x pos) (Cz i):=by
 intro pins s σ H Q I h;obtain⟨v,e,h⟩:=h;obtain⟨m,hn,hl⟩:=I.loc;obtain⟨u,r,l⟩:=hl i x v hN e hv;have fin:EP X pins σ Q u s:=⟨v,H,I,r,h⟩;rcases l with ⟨hk,hm⟩ | ⟨hk,c,hc,hcell⟩
 ·exact wpAny_Name (wpAny_loadName_local I.ok.kind hk hn hm fin) hd
 ·rcases hk with hk | hk
  ·exact wpAny_Name (wpAny_loadName_cell I.ok.kind hk hc hcell fin) hd
  ·exact wpAny_Name (wpAny_loadName_free I.ok.kind hk hc hcell fin hcd) hd
theorem zB {i j pos}:PE X (.Constant (.int i) j pos) (tC (.int i)):=fun _ _ _ H _ I h=>wpAny_Constant_int ⟨.int i,H,I.tok _,⟨_,rfl⟩,h⟩
theorem gF {b j pos}:PE X (.Constant (.bool b) j pos) (tC (.bl b)):=fun _ _ _ H _ I h=>Constant_bool ⟨.bl b,H,I,rfl,h⟩
theorem bf {j pos}:PE X (.Constant .none j pos) (tC .non):=fun _ _ _ H _ I h=>Constant_none ⟨.non,H,I,rfl,h⟩
theorem zP {x j pos}:PE X (.Constant (.str x) j pos) (tC (.str x)):=fun _ _ _ H _ I h=>Calls.Constant_str ⟨.str x,H,I.tok _,⟨_,rfl⟩,h⟩
noncomputable def Gl(X:Cx)(x:Str):Prop:=X.env.kindOf x=some .globalImplicit
theorem oG{E:Value->Shared->Prop}{pins:List (Addr×Obj)}{s:Shared}{σ:St}{H:Hp}{x:Str}{u:Value}{pos:Pos}{Q:Value->Shared->Prop}(I:Inv X pins σ H s)(hg:Gl X x)(hm:X.mg x=some u)(h:Q u s)
  (hd:(x==("__debug__" : Str))=false:=by decide):wpAny (model X.prog X.w) X.A (eval (.Name x pos) X.env) Q E s:=
 Calls.Name_function_global I.ok.kind hg (Calls.loadGlobal_global (by rw[I.ok.glob];exact I.mod.glob.keeps I.bk) hm h) hd
theorem mY{E:Value->Shared->Prop}{pins:List (Addr×Obj)}{s:Shared}{σ:St}{H:Hp}{x:Str}{u:Value}{pos:Pos}{Q:Value->Shared->Prop}(I:Inv X pins σ H s)(hg:Gl X x)(hm:X.mg x=none)(hv:bootBuiltins x=some u)(h:Q u s)
  (hn:x ≠ "__name__" := by decide) (hd:(x==("__debug__" : Str))=false:=by decide):wpAny (model X.prog X.w) X.A (eval (.Name x pos) X.env) Q E s:=by
 obtain⟨mb,h1,h2⟩:=I.mod.blt;exact Calls.Name_function_global I.ok.kind hg (Calls.loadGlobal_builtin (by rw[I.ok.glob];exact I.mod.glob.keeps I.bk) hm (by rw[I.ok.blt];exact h1.keeps I.bk) ((h2 x hn).trans hv) h) hd
theorem qe{x:Str}{v:V}{u:Value}{pos:Pos}(hg:Gl X x)(hm:X.mg x=none)(hv:bootBuiltins x=some u)(r:RelV v u)(hn:x ≠ "__name__" := by decide)(hd:(x==("__debug__" : Str))=false:=by decide):PE X (.Name x pos) (tC v):=
 fun _ _ _ H _ I h=>mY I hg hm hv ⟨v,H,I,r,h⟩ hn hd
variable{a b:Expr}{ta tb:TE}{pos:Pos}
noncomputable def PC(X:Cx)(op:CmpOp)(a b:Expr)(t:TE):Prop:=
 ∀(pins:List (Addr×Obj))(s:Shared)(σ:St)(H:Hp)(Q:VK),Inv X pins σ H s->t σ H Q →
  wpAny (model X.prog X.w) X.A (eval a X.env) (fun v s₁=>wpAny (model X.prog X.w) X.A (eval b X.env) (fun u s₂=>wpAny (model X.prog X.w) X.A (compareOp op v u) (EP X pins σ Q) X.xe s₂) X.xe s₁) X.xe s
noncomputable def tB(t:TE):TT:=fun σ H Q=>t σ H fun x H1 => ∃ c,x = .bl c/\Q c H1
theorem Q5{op:CmpOp}{t:TE}(h:PC X op a b t)(h1:behindInMarks op b=false:=by first | exact nobehind _ (by decide) (by decide) | rfl):PT X (.Compare a [op] [b] pos) (tB t):=by
 intro pins s σ H Q I hw;refine wpAny_isTrue_Compare1 (au (h pins s σ H _ I hw) fun v s1 h1=>au h1 fun u s2 h2=>au h2 fun c s3 ⟨x,H1,I1,r1,q1⟩=>?_) h1;obtain⟨d,rfl,q⟩:=q1
 cases r1
 exact wpAny_truthy_bool ⟨H1,I1,q⟩
theorem dY{e:Expr}{t:TE}(h:PE X e t)(he:∀ whole,isTrue e X.env whole=(do let v ← whole;standAt e.pos;holding [v] (truthy v)):=by intro _;rfl):PT X e (tB t):=by
 intro pins s σ H Q I hw;refine isTrue_plain (au (h pins s σ H _ I hw) fun v s1 ⟨x,H1,I1,r1,q1⟩=>?_) (he _);obtain⟨d,rfl,q⟩:=q1
 cases r1
 exact wpAny_truthy_bool ⟨H1,I1,q⟩
variable{tA tB':TT}{rest:List Expr}
noncomputable def qEF(t u:TT):TT:=fun σ H Q=>t σ H fun c H1=>if c=true then u σ H1 Q else Q false H1
noncomputable def tOr(t u:TT):TT:=fun σ H Q=>t σ H fun c H1=>if c=true then Q true H1 else u σ H1 Q
noncomputable def qE8(t:TT):TT:=fun σ H Q=>t σ H fun c H1=>Q (!c) H1
theorem yP(ha:PT X a tA):PW X (.BoolOp .And [a] pos) tA:=by
 intro wh pins s σ H Q I h;refine isTrue_and (au (ha pins s σ H Q I h) fun c s1 e=>?_)
 cases c with
 | true=>exact isTrue_and_nil e
 | false=>exact e
theorem pw_or1(ha:PT X a tA):PW X (.BoolOp .Or [a] pos) tA:=by
 intro wh pins s σ H Q I h;refine isTrue_or (au (ha pins s σ H Q I h) fun c s1 e=>?_)
 cases c with
 | false=>exact isTrue_or_nil e
 | true=>exact e
theorem pw_and(ha:PT X a tA)(hb:PW X (.BoolOp .And (b::rest) pos) tB'):PW X (.BoolOp .And (a::b::rest) pos) (qEF tA tB'):=by
 intro wh pins s σ H Q I h;refine isTrue_and (au (ha pins s σ H _ I h) fun c s1 ⟨H1,I1,q1⟩=>?_)
 cases c with
 | true=>exact hb wh pins s1 σ H1 Q I1 q1
 | false=>exact⟨H1,I1,q1⟩
theorem pw_or(ha:PT X a tA)(hb:PW X (.BoolOp .Or (b::rest) pos) tB'):PW X (.BoolOp .Or (a::b::rest) pos) (tOr tA tB'):=by
 intro wh pins s σ H Q I h;refine isTrue_or (au (ha pins s σ H _ I h) fun c s1 ⟨H1,I1,q1⟩=>?_)
 cases c with
 | true=>exact⟨H1,I1,q1⟩
 | false=>exact hb wh pins s1 σ H1 Q I1 q1
theorem lB(ha:PT X a tA):PT X (.UnaryOp .Not a pos) (qE8 tA):=by
 intro pins s σ H Q I h;exact isTrue_not (ha pins s σ H (fun c H1=>Q (!c) H1) I h)
noncomputable def qAH(ta tb:TE):TE:=fun σ H Q=>ta σ H fun x H1 => ∃ c,x = .bl c/\if c=true then tb σ H1 Q else Q (.bl false) H1
noncomputable def qE7(ta tb:TE):TE:=fun σ H Q=>ta σ H fun x H1 => ∃ c,x = .bl c/\if c=true then Q (.bl true) H1 else tb σ H1 Q
noncomputable def qA4(ta:TE):TE:=fun σ H Q=>ta σ H fun x H1 => ∃ c,x = .bl c/\Q (.bl (!c)) H1
theorem HX {op} {t:TE} (h:PE X a t):PE X (.BoolOp op [a] pos) t:=fun pins s σ H Q I hw=>BoolOp_one (h pins s σ H Q I hw)
theorem QH(ha:PE X a ta)(hb:PE X (.BoolOp .And (b::rest) pos) tb):PE X (.BoolOp .And (a::b::rest) pos) (qAH ta tb):=by
 intro pins s σ H Q I h;refine BoolOp_and (au (ha pins s σ H _ I h) fun v s1 ⟨x,H1,I1,r1,q1⟩=>?_);obtain⟨c,rfl,q1⟩:=q1
 cases r1
 refine wpAny_truthy_bool ?_
 cases c with
 | true=>exact hb pins s1 σ H1 Q I1 q1
 | false=>exact⟨.bl false,H1,I1,rfl,q1⟩
theorem qB1(ha:PE X a ta)(hb:PE X (.BoolOp .Or (b::rest) pos) tb):PE X (.BoolOp .Or (a::b::rest) pos) (qE7 ta tb):=by
 intro pins s σ H Q I h;refine BoolOp_or (au (ha pins s σ H _ I h) fun v s1 ⟨x,H1,I1,r1,q1⟩=>?_);obtain⟨c,rfl,q1⟩:=q1
 cases r1
 refine wpAny_truthy_bool ?_
 cases c with
 | false=>exact hb pins s1 σ H1 Q I1 q1
 | true=>exact⟨.bl true,H1,I1,rfl,q1⟩
theorem Xf(ha:PE X a ta):PE X (.UnaryOp .Not a pos) (qA4 ta):=by
 intro pins s σ H Q I h;refine UnaryOp_ (au (ha pins s σ H _ I h) fun v s1 ⟨x,H1,I1,r1,q1⟩=>?_);obtain⟨c,rfl,q1⟩:=q1
 cases r1
 exact not_of (wpAny_truthy_bool ⟨.bl (!c),H1,I1,rfl,q1⟩)
noncomputable def tIf(t:TT)(ta tb:TE):TE:=fun σ H Q=>t σ H fun c H1=>if c=true then ta σ H1 Q else tb σ H1 Q
theorem Dy{c:Expr}(hc:PT X c tA)(ha:PE X a ta)(hb:PE X b tb):PE X (.IfExp c a b pos) (tIf tA ta tb):=by
 intro pins s σ H Q I h;refine wpAny_IfExp (au (hc pins s σ H _ I h) fun d s1 ⟨H1,I1,q1⟩=>?_)
 cases d with
 | true=>exact ha pins s1 σ H1 Q I1 q1
 | false=>exact hb pins s1 σ H1 Q I1 q1
end
noncomputable def aQ(K:bO)(H:Hp)(a:Addr)(xs:List V):Prop:=
 Rd H a (.lst xs) ∨
  ∃(o:Obj)(its:Array Value)(n:Nat),K.lookup a=some o/\o.cls = .type "list" /\ o.dict=none/\o.data = .seq its n/\its.size<=sizeLine/\Vals xs its.toList
noncomputable def aK(K:bO)(H:Hp)(a:Addr)(xs:List V):Prop:=
 Rd H a (.tup xs) ∨
  ∃(o:Obj)(its:Array Value)(n:Nat),K.lookup a=some o/\o.cls = .type "tuple" /\ o.data = .seq its n/\its.size<=sizeLine/\Vals xs its.toList
noncomputable def qGI:Value->Option V
 | .none=>some .non
 | .bool b=>some (.bl b)
 | .int i _=>some (.int i)
 | .str x _=>some (.str x)
 | .bytes b _=>some (.O9 b)
 | .float b _=>some (.flt b)
 | .ref a=>some (.ref a)
 | .type n=>some (.ty n)
 | _=>none
theorem RelV.abs{x:V}{u:Value}(r:RelV x u):qGI u=some x:=by
 cases x with
 | non=>cases r;rfl
 | bl _=>cases r;rfl
 | int _=>obtain⟨t,rfl⟩:=r;rfl
 | str _=>obtain⟨t,rfl⟩:=r;rfl
 | O9 _=>obtain⟨t,rfl⟩:=r;rfl
 | flt _=>obtain⟨t,rfl⟩:=r;rfl
 | ref _=>cases r;rfl
 | ty _=>cases r;rfl
theorem RelV.inj{x y:V}{u:Value}(r:RelV x u)(q:RelV y u):x=y:=jO (r.abs.symm.trans q.abs)
theorem Vals.inj:∀ {xs ys:List V} {us:List Value},Vals xs us->Vals ys us->xs=ys
 | _,_,_,.nil,.nil=>rfl
 | _,_,_,.cons r t,.cons r' t'=>by rw[r.inj r',Vals.inj t t']
section
variable{X:Cx}{pins:List (Addr×Obj)}{σ:St}{H:Hp}{s:Shared}{a:Addr}{xs ys:List V}
theorem aQ.of{K:bO}(h:H a=some (.lst xs)):aQ K H a xs:=.inl (.inl h)
theorem aK.of{K:bO}(h:H a=some (.tup xs)):aK K H a xs:=.inl (.inl h)
theorem Inv.list(I:Inv X pins σ H s)(h:aQ X.K H a xs):∃ its:List Value,Vals xs its/\PlainL s.heap a its.toArray/\xs.length<=sizeLine:=by
 rcases h with h | ⟨o,its,n,hk,hc,hd,hs,hz,r⟩
 ·obtain⟨z,its,n,r,e⟩:=h.ok I.hok;exact⟨its,r,⟨_,n,e,rfl,rfl,rfl⟩,z⟩
 ·refine⟨its.toList,r,⟨o,n,I.lq a o hk,hc,hd,by simpa using hs⟩,?_⟩;have e:=r.length;simp only[Array.length_toList]at e;lia
theorem Inv.tuple(I:Inv X pins σ H s)(h:aK X.K H a xs):∃ its:List Value,Vals xs its/\IsTup s.heap a its.toArray/\xs.length<=sizeLine:=by
 rcases h with h | ⟨o,its,n,hk,hc,hs,hz,r⟩
 ·obtain⟨z,its,r,p⟩:=h.ok I.hok;exact⟨its,r,p,z⟩
 ·refine⟨its.toList,r,⟨o,I.lq a o hk,hc,n,by simpa using hs⟩,?_⟩;have e:=r.length;simp only[Array.length_toList]at e;lia
theorem Inv.Qw(I:Inv X pins σ H s)(h:aQ X.K H a xs)(h':aQ X.K H a ys):xs=ys:=by
 obtain⟨its,r,⟨o,n,e,_,_,d⟩,_⟩:=I.list h;obtain⟨its',r',⟨o',n',e',_,_,d'⟩,_⟩:=I.list h';rw[e]at e';cases e';rw[d]at d';injection d' with d1 _
 have:its=its':=by simpa using congrArg Array.toList d1
 subst this;exact r.inj r'
theorem Inv.xn(I:Inv X pins σ H s)(h:aK X.K H a xs)(h':aK X.K H a ys):xs=ys:=by
 obtain⟨its,r,⟨o,e,_,n,d⟩,_⟩:=I.tuple h;obtain⟨its',r',⟨o',e',_,n',d'⟩,_⟩:=I.tuple h';rw[e]at e';cases e';rw[d]at d';injection d' with d1 _
 have:its=its':=by simpa using congrArg Array.toList d1
 subst this;exact r.inj r'
end
noncomputable abbrev Cx.wish(X:Cx)(E:Value->Shared->Prop):Cx:={ X with xe:=E }
noncomputable abbrev Cx.ZS(X:Cx):Cx:=X.wish fun _ _=>False
theorem Cx.Ok.wish{X:Cx}(ok:X.Ok)(E:Value->Shared->Prop):(X.wish E).Ok:=
 ⟨ok.mod,ok.kind,ok.glob,ok.blt,ok.above,ok.inj,ok.has,ok.cab,ok.hd,ok.frames,ok.stk,ok.exf,ok.bs,ok.OD,ok.Hw,ok.Rf,ok.qw,ok.Vh⟩
theorem Cx.Ok.fQ{X:Cx}{E:Value->Shared->Prop}(ok:(X.wish E).Ok):X.Ok:=
 ⟨ok.mod,ok.kind,ok.glob,ok.blt,ok.above,ok.inj,ok.has,ok.cab,ok.hd,ok.frames,ok.stk,ok.exf,ok.bs,ok.OD,ok.Hw,ok.Rf,ok.qw,ok.Vh⟩
section
variable{X:Cx}{pins:List (Addr×Obj)}{σ:St}{H:Hp}{s:Shared}{E:Value->Shared->Prop}
theorem Inv.wish(I:Inv X pins σ H s)(E:Value->Shared->Prop):Inv (X.wish E) pins σ H s:=⟨I.ok.wish E,I.os,I.bare,I.base,I.loc,I.cell,I.free,I.jH,I.pin,I.hok,I.len⟩
theorem Inv.fQ(I:Inv (X.wish E) pins σ H s):Inv X pins σ H s:=⟨I.ok.fQ,I.os,I.bare,I.base,I.loc,I.cell,I.free,I.jH,I.pin,I.hok,I.len⟩
theorem SP.fQ{D:Ends}{f:Flow}{s':Shared}(h:SP (X.wish E) pins D f s'):SP X pins D f s':=by
 cases f with
 | next=>obtain⟨σ',H',I,q⟩:=h;exact⟨σ',H',I.fQ,q⟩
 | brk=>obtain⟨σ',H',I,q⟩:=h;exact⟨σ',H',I.fQ,q⟩
 | cont=>obtain⟨σ',H',I,q⟩:=h;exact⟨σ',H',I.fQ,q⟩
 | ret u=>obtain⟨v,σ',H',I,r,q⟩:=h;exact⟨v,σ',H',I.fQ,r,q⟩
theorem Ac.ZS{st:List Stmt}{t:TS}(h:Ac X.ZS st t):Ac X st t:=fun pins s σ H D I hw=>
 wpAny_mono (h pins s σ H D (I.wish _) hw) (fun _ _ q=>q.fQ) fun _ _ z=>False.elim z
end
section
variable{X:Cx}{st:Stmt}{rest:List Stmt}{t u:TS}{e:Expr}{te:TE}{pos:Pos}
noncomputable def qA5:TS:=fun D σ H=>D.nx σ H
noncomputable def qA2(t u:TS):TS:=fun D σ H=>t { D with nx:=u D } σ H
theorem zT:Ac X [] qA5:=fun _ _ σ H _ I h=>wpAny_execs_nil ⟨σ,H,I,h⟩
theorem zE(h1:PS X st t)(h2:Ac X rest u):Ac X (st::rest) (qA2 t u):=by
 intro pins s σ H D I h;refine wpAny_execs_cons (au (h1 pins s σ H { D with nx:=u D } I h) fun f s1 q=>?_)
 cases f with
 | next=>
  obtain⟨σ',H',I',q⟩:=q;exact h2 pins s1 σ' H' D I' q
 | ret v=>exact q
 | brk=>exact q
 | cont=>exact q
theorem zG(h1:PS X st t):Ac X [st] t:=by
 intro pins s σ H D I h;refine wpAny_execs_cons (au (h1 pins s σ H D I h) fun f s1 q=>?_)
 cases f with
 | next=>exact wpAny_execs_nil q
 | ret v=>exact q
 | brk=>exact q
 | cont=>exact q
theorem Inv.quiet{pins:List (Addr×Obj)}{σ:St}{H:Hp}{s:Shared}(I:Inv X pins σ H s):interactive X.env=false:=by simp [interactive,I.ok.kind]
noncomputable def qAB(te:TE):TS:=fun D σ H=>te σ H fun _ H1=>D.nx σ H1
theorem yI(he:PE X e te)(hs:swapsWith e none pos.line X.env=pure false:=by rfl):PS X (.Expr e pos) (qAB te):=by
 intro pins s σ H D I h;exact wpAny_Expr_any (au (he pins s σ H _ I h) fun v s1 ⟨x,H1,I1,r1,q1⟩=>⟨σ,H1,I1,q1⟩) I.quiet hs
noncomputable def qE6(te:TE):TS:=fun D σ H=>te σ H D.rt
theorem zO(he:PE X e te):PS X (.Return (some e) pos) (qE6 te):=by
 intro pins s σ H D I h;exact wpAny_Return_some (au (he pins s σ H _ I h) fun v s1 ⟨x,H1,I1,r1,q1⟩=>⟨x,σ,H1,I1,r1,q1⟩)
noncomputable def qEA(c:TT)(t u:TS):TS:=fun D σ H=>c σ H fun b H1=>if b=true then t D σ H1 else u D σ H1
theorem yD{c:Expr}{a b:List Stmt}{tc:TT}(hc:PT X c tc)(ha:Ac X a t)(hb:Ac X b u):PS X (.If c a b pos) (qEA tc t u):=by
 intro pins s σ H D I h;refine wpAny_If (au (hc pins s σ H _ I h) fun d s1 ⟨H1,I1,q1⟩=>?_)
 cases d with
 | true=>exact ha pins s1 σ H1 D I1 q1
 | false=>exact hb pins s1 σ H1 D I1 q1
end
noncomputable abbrev TG:=V->St->Hp->(St->Hp->Prop)->Prop
noncomputable abbrev Z6:=List V->St->Hp->(St->Hp->Prop)->Prop
noncomputable def PG(X:Cx)(target:Expr)(t:TG):Prop:=
 ∀(pins:List (Addr×Obj))(s:Shared)(σ:St)(H:Hp)(v:V)(u:Value)(Q:St->Hp->Prop),Inv X pins σ H s->RelV v u->t v σ H Q →
  wpAny (model X.prog X.w) X.A (assign target X.env u) (fun _ s'=>∃ σ' H',Inv X pins σ' H' s'/\Q σ' H') X.xe s
noncomputable def PGs(X:Cx)(ts:List Expr)(t:Z6):Prop:=
 ∀(pins:List (Addr×Obj))(s:Shared)(σ:St)(H:Hp)(vs:List V)(us:List Value)(Q:St->Hp->Prop),Inv X pins σ H s->Vals vs us->t vs σ H Q →
  wpAny (model X.prog X.w) X.A (assignInOrder ((assignEach ts X.env).map (·.2)) us) (fun _ s'=>∃ σ' H',Inv X pins σ' H' s'/\Q σ' H') X.xe s
noncomputable abbrev Z5:=V->V->V->Hp->(Hp->Prop)->Prop
noncomputable def qDW(X:Cx)(t:Z5):Prop:=
 ∀(pins:List (Addr×Obj))(s:Shared)(σ:St)(H:Hp)(o i v:V)(ov iv u:Value)(Q:Hp->Prop),Inv X pins σ H s->RelV o ov->RelV i iv->RelV v u->t o i v H Q →
  wpAny (model X.prog X.w) X.A (setItem ov iv u) (fun _ s'=>∃ H',Inv X pins σ H' s'/\Q H') X.xe s
noncomputable abbrev TIp:=V->V->Hp->VK->Prop
noncomputable def PIp(X:Cx)(op:Operator)(t:TIp):Prop:=
 ∀(pins:List (Addr×Obj))(s:Shared)(σ:St)(H:Hp)(x y:V)(v u:Value)(Q:VK),Inv X pins σ H s->RelV x v->RelV y u->t x y H Q →
  wpAny (model X.prog X.w) X.A (inplaceOp op v u) (EP X pins σ Q) X.xe s
section
variable{X:Cx}{pos:Pos}
noncomputable def FZ(i:Nat):TG:=fun v σ H Q=>Q (σ.set i (some v)) H
theorem yJ{i:Nat}{x:Str}(hN:X.N.Nodup)(hi:X.N[i]? = some x)(hx:Loc X.env.scope x)(hf:X.fn x=true∨X.env.scope.names.lookup x=some .local:=by first | exact .inl rfl | exact .inr rfl | assumption):PG X (.Name x pos) (FZ i):=by
 intro pins s σ H v u Q I r h;exact wpAny_assign_Name (mC I hN hi hx r (fun s' I'=>⟨_,H,I',h⟩) hf)
noncomputable def qGE:Z6:=fun vs σ H Q=>vs=[]/\Q σ H
noncomputable def qC9(t:TG)(u:Z6):Z6:=fun vs σ H Q => ∃ v r,vs=v::r/\t v σ H fun σ' H'=>u r σ' H' Q
theorem K9:PGs X [] qGE:=by
 intro pins s σ H vs us Q I r h;obtain⟨e,h⟩:=h;subst e
 cases r
 exact assignInOrder_nil ⟨σ,H,I,h⟩
theorem qZ{e:Expr}{es:List Expr}{t:TG}{u:Z6}(h1:PG X e t)(h2:PGs X es u)
  (hs:(assignEach (e::es) X.env).map (·.2)=assign e X.env::(assignEach es X.env).map (·.2):=by rfl):PGs X (e::es) (qC9 t u):=by
 intro pins s σ H vs us Q I r h;obtain⟨v,vr,e1,h⟩:=h;subst e1
 cases r with
 | cons r rr=>
  rw[hs];refine assignInOrder_cons (au (h1 pins s σ H _ _ _ I r h) fun _ s1 ⟨σ1,H1,I1,q1⟩=>?_);exact h2 pins s1 σ1 H1 _ _ Q I1 rr q1
noncomputable def qGC(K:bO)(n:Nat)(t:Z6):TG:=fun v σ H Q => ∃ a xs,v = .ref a/\aK K H a xs/\xs.length=n/\t xs σ H Q
theorem QC{es:List Expr}{k:Nat}{t:Z6}{n:Nat}(hc:X.calm=true)(h:PGs X es t)
  (hn:(assignEach es X.env).length=n:=by rfl) (hst:(assignEach es X.env).findIdx? (·.1)=none:=by rfl):PG X (.Tuple es k pos) (qGC X.K n t):=by
 intro pins s σ H v u Q I r hw;obtain⟨a,xs,e1,hq,hl,hw⟩:=hw;subst e1
 cases r
 obtain⟨its,rv,ht,hz⟩:=I.tuple hq;refine assign_Tuple_tuple (I.ok.hd hc) ht (by simp [hn,<-hl,rv.length]) hst fun h' hx=>?_;have I1:Inv X pins σ H { s with heap:=h' }:=I.kept (t':=s.toks) fun b o e=>hx b o (kI (gP e)) e;exact h pins _ σ H xs _ Q I1 (by simpa using rv) hw
noncomputable def qGD(to ti:TE)(t:Z5):TG:=fun v σ H Q=>to σ H fun o H1=>ti σ H1 fun i H2=>t o i v H2 fun H3=>Q σ H3
theorem Xd{o i:Expr}{to ti:TE}{t:Z5}(ho:PE X o to)(hi:PE X i ti)(hs:qDW X t)
  (ha:∀ v,assign (.Subscript o i pos) X.env v=(do
   let ov ← holding [v] (eval o X.env)
   let iv ← holding [v,ov] (eval i X.env)
   standAt pos
   holding [v,ov,iv] (setItem ov iv v)
   release [v,ov,iv] []):=by intro _;rfl):PG X (.Subscript o i pos) (qGD to ti t):=by
 intro pins s σ H v u Q I r h;rw[ha];refine wpAny_bind (wpAny_holding (au (ho pins s σ H _ I h) fun ov s1 ⟨x,H1,I1,r1,q1⟩=>?_));refine wpAny_bind (wpAny_holding (au (hi pins s1 σ H1 _ I1 q1) fun iv s2 ⟨y,H2,I2,r2,q2⟩=>?_));refine wpAny_bind (wpAny_standAt (wpAny_bind (wpAny_holding (au (hs pins s2 σ H2 x y v ov iv u _ I2 r1 r2 r q2) fun _ s3 ⟨H3,I3,q3⟩=>?_))));exact wpAny_release ⟨σ,H3,I3,q3⟩
noncomputable def Oj(te:TE)(g:TG):TS:=fun D σ H=>te σ H fun x H1=>g x σ H1 D.nx
theorem Xa{tg e:Expr}{te:TE}{g:TG}(he:PE X e te)(hg:PG X tg g)(hs:swapsWithSole [tg] e pos.line X.env=pure false:=by rfl)(hw:swappedStores [tg] e X.env=pure none:=by rfl)
  (h1:(assignEach [tg] X.env).map (·.2)=[assign tg X.env]:=by rfl):PS X (.Assign [tg] e pos) (Oj te g):=by
 intro pins s σ H D I h;refine wpAny_Assign_stores (au (he pins s σ H _ I h) fun v s1 ⟨x,H1,I1,r1,q1⟩=>?_) hs hw;rw[h1];exact au (hg pins s1 σ H1 x v _ I1 r1 q1) fun _ s2 q=>q
theorem zK{i:Nat}{x:Str}{e:Expr}{te:TE}{pos':Pos}(hN:X.N.Nodup)(hi:X.N[i]? = some x)(hx:Loc X.env.scope x)(he:PE X e te)(hs:swapsWith e (some (.Name x pos')) pos.line X.env=pure false:=by rfl)(hf:X.fn x=true∨X.env.scope.names.lookup x=some .local:=by first | exact .inl rfl | exact .inr rfl | assumption) :
  PS X (.Assign [.Name x pos'] e pos) (Oj te (FZ i)):=by
 intro pins s σ H D I h;refine wpAny_Assign_Name (au (he pins s σ H _ I h) fun v s1 ⟨y,H1,I1,r1,q1⟩=>?_) hs;exact mC I1 hN hi hx r1 (fun s2 I2=>⟨_,H1,I2,q1⟩) hf
noncomputable def qEE(i:Nat)(te:TE)(ti:TIp):TS:=fun D σ H => ∃ x,σ[i]? = some (some x)/\te σ H fun y H1=>ti x y H1 fun z H2=>D.nx (σ.set i (some z)) H2
theorem Q9{i:Nat}{x:Str}{e:Expr}{te:TE}{op:Operator}{ti:TIp}{pos':Pos}(hN:X.N.Nodup)(hi:X.N[i]? = some x)(hx:Loc X.env.scope x)(he:PE X e te)(ho:PIp X op ti)(hf:X.fn x=true∨X.env.scope.names.lookup x=some .local:=by first | exact .inl rfl | exact .inr rfl | assumption) :
  PS X (.AugAssign (.Name x pos') op e pos) (qEE i te ti):=by
 intro pins s σ H D I h;obtain⟨v,e1,h⟩:=h;obtain⟨m,hn,hl⟩:=I.loc
 have vis:Vis X.env.scope x:=by rcases hx with k | k;exact .inl k;exact .inr (.inl k)
 obtain⟨u,r,l⟩:=hl i x v hi e1 vis;refine wpAny_AugAssign_Name ?_
 have go:wpAny (model X.prog X.w) X.A (eval e X.env) (fun w s₂=>wpAny (model X.prog X.w) X.A (inplaceOp op u w) (fun r s₃=>wpAny (model X.prog X.w) X.A (storeName X.env x r) (fun _=>SP X pins D .next) X.xe s₃) X.xe s₂) X.xe s:=by
  refine au (he pins s σ H _ I h) fun w s1 ⟨y,H1,I1,r1,q1⟩=>?_;refine au (ho pins s1 σ H1 v y u w _ I1 r r1 q1) fun z s2 ⟨zv,H2,I2,r2,q2⟩=>?_;exact mC I2 hN hi hx r2 (fun s3 I3=>⟨_,H2,I3,q2⟩) hf
 rcases l with ⟨hk,hm⟩ | ⟨hk,c,hc,hcell⟩
 ·exact wpAny_loadName_local I.ok.kind hk hn hm go
 ·rcases hk with hk | hk
  ·exact wpAny_loadName_cell I.ok.kind hk hc hcell go
  ·rcases hx with k | k
   ·have:X.env.scope.names.lookup x=some .free:=hk;rw[k]at this;cases this
   ·have:X.env.scope.names.lookup x=some .free:=hk;rw[k]at this;cases this
noncomputable def ipI(f:Int->Int->Int):TIp:=fun x y H Q => ∃ i j,x = .int i/\y = .int j/\Q (.int (f i j)) H
theorem R4:PIp X .Add (ipI fun i j=>i+j):=by
 intro pins s σ H x y v u Q I r1 r2 h;obtain⟨i,j,e1,e2,q⟩:=h;subst e1;subst e2;obtain⟨t,rfl⟩:=r1;obtain⟨t',rfl⟩:=r2;exact iadd_int ⟨.int _,H,I.tok _,⟨_,rfl⟩,q⟩
noncomputable def X4(c:TT)(tb:TS):TS:=fun D σ H => ∃ W:Nat->St->Hp->Prop,(∃ m,W m σ H)/\∀ m σ H,W m σ H →
 c σ H fun b H1=>if b=true then ∃ N:St->Hp->Prop,(∀ σ' H',N σ' H'->∃ m',m'<m/\W m' σ' H')/\tb { D with nx:=N,ct:=N,bk:=D.nx } σ H1 else D.nx σ H1
theorem mQ{c:Expr}{body:List Stmt}{tc:TT}{tb:TS}(hp:PassesOwn (model X.prog X.w) X.A X.env X.xe)(hc:PT X c tc)(hb:Ac X body tb):PS X (.While c body [] pos) (X4 tc tb):=by
 intro pins s σ H D I h;obtain⟨W,⟨m0,w0⟩,turn⟩:=h;refine wpAny_While (codeAny_whileLoop (fun n s'=>∃ σ' H',Inv X pins σ' H' s'/\W n σ' H') ?_ m0 ⟨σ,H,I,w0⟩);rintro n s1 ⟨σ1,H1,I1,w1⟩;refine wpAny_passesOwn hp (au (hc pins s1 σ1 H1 _ I1 (turn n σ1 H1 w1)) fun b s2 ⟨H2,I2,q2⟩=>?_)
 cases b with
 | true=>
  obtain⟨N,hN,q2⟩:=q2;rw[if_pos rfl];refine wpAny_passesOwn hp (au (hb pins s2 σ1 H2 _ I2 q2) fun f s3 q3=>?_)
  cases f with
  | next=>
   obtain⟨σ3,H3,I3,n3⟩:=q3;obtain⟨m',hm,w3⟩:=hN σ3 H3 n3;exact⟨m',hm,σ3,H3,I3,w3⟩
  | cont=>
   obtain⟨σ3,H3,I3,n3⟩:=q3;obtain⟨m',hm,w3⟩:=hN σ3 H3 n3;exact⟨m',hm,σ3,H3,I3,w3⟩
  | brk=>exact q3
  | ret v=>exact q3
 | false=>
  rw[if_neg pZ];exact wpAny_execs_nil ⟨σ1,H2,I2,q2⟩
end
structure It where
 go:Nat->Hp->Prop
 Th:Nat->Hp->V->Hp->Prop
 stop:Nat->Hp->Prop
noncomputable def gM(X:Cx)(pins:List (Addr×Obj))(H:Hp)(b:Addr):Prop:=
 H b=none/\b≠X.env.locals/\b∉X.fs/\(b∈X.ex∨X.s₀.heap.objs.size<=b)/\(∀ x c,X.env.cells.lookup x=some c->c≠b)/\∀ p∈X.pn++pins,p.1≠b
theorem Inv.wO{X:Cx}{pins:List (Addr×Obj)}{σ:St}{H H':Hp}{s:Shared}{b:Addr}(I:Inv X pins σ H s)(hb:s.heap.objs.size<=b)(hn:H' b=none):gM X pins H' b:=by
 refine⟨hn,Nat.ne_of_gt (Ai I.lt hb),I.qEX hb,.inr (Nat.le_trans I.sz hb),fun x c e z=>?_,fun p hp z=>?_⟩
 ·obtain⟨v,q⟩:=I.cell x c e;exact absurd (Ai q.lt (by rw[z];exact hb)) (Nat.lt_irrefl _)
 ·exact absurd (Ai (gP (I.pin p hp).1) (by rw[z];exact hb)) (Nat.lt_irrefl _)
structure Turn(P:Program)(w:World)(K:bO)(tg:Expr)(J:It)(fp:List Addr)(it:Addr)(tn:Nat->Heap->Prop):Prop where
 mem:it∈fp
 obj:∀ i h,tn i h->∀ b∈fp,∃ o,h.get? b=some o/\∀ v,o.data≠.cell v
 keep:∀ i h h',tn i h->(∀ b∈fp,∀ o,h.get? b=some o->h'.get? b=some o)->tn i h'
 item:∀(X:Cx),X.prog=P->X.w=w->X.K=K->X.calm=true->∀(i:Nat)(pins:List (Addr×Obj))(s:Shared)(σ:St)(H:Hp)(E:Value->Shared->Prop),Inv X pins σ H s->(∀ b∈fp,gM X pins H b)->tn i s.heap->J.go i H →
  wpAny (model P w) X.A (pyNext (.ref it)) (fun r s1 => ∃ u,r=some u ∧
   wpAny (model P w) X.A (letOwnedTupleGo tg (.ref it) u) (fun _ s2 => ∃ x H',Inv X pins σ H' s2/\RelV x u/\J.Th i H x H'/\tn (i+1) s2.heap/\∀ b∈fp,H' b=none) E s1) E s
 done:∀(X:Cx),X.prog=P->X.w=w->X.K=K->X.calm=true->∀(i:Nat)(pins:List (Addr×Obj))(s:Shared)(σ:St)(H:Hp)(E:Value->Shared->Prop),Inv X pins σ H s->(∀ b∈fp,gM X pins H b)->tn i s.heap->J.stop i H →
  wpAny (model P w) X.A (pyNext (.ref it)) (fun r s1=>r=none/\Inv X pins σ H s1) E s
 self:∀(A:Around)(i:Nat)(s:Shared)(Q:Value->Shared->Prop)(E:Value->Shared->Prop),tn i s.heap->Q (.ref it) s->wpAny (model P w) A (pyIter (.ref it)) Q E s
noncomputable abbrev TI:=St->Hp->(It->Hp->Prop)->Prop
noncomputable def PIE(X:Cx)(pins:List (Addr×Obj))(σ:St)(tg:Expr)(R:It->Hp->Prop)(itv:Value)(s2:Shared):Prop:=
 ∃(it:Addr)(fp:List Addr)(tn:Nat->Heap->Prop)(J:It)(H':Hp),itv = .ref it/\Inv X pins σ H' s2/\Turn X.prog X.w X.K tg J fp it tn/\tn 0 s2.heap/\(∀ b∈fp,gM X pins H' b)/\R J H'
noncomputable def PI(X:Cx)(tg iter:Expr)(wi:TI):Prop:=
 ∀(pins:List (Addr×Obj))(s:Shared)(σ:St)(H:Hp)(R:It->Hp->Prop),Inv X pins σ H s->wi σ H R →
  wpAny (model X.prog X.w) X.A (eval iter X.env) (fun v s1=>wpAny (model X.prog X.w) X.A (pyIter v) (PIE X pins σ tg R) X.xe s1) X.xe s
theorem Ko{M:Model}{A:Around}{E:Value->Shared->Prop}{s:Shared}{tg:Expr}{it:Addr}{u:Value}{o:Obj}{n:String}{vs:Array Value}{Q:Unit->Shared->Prop}(ho:s.heap.get? it=some o)(hc:o.cls = .type n)(hd:o.data = .fields vs)
  (hn:["enumerate","zip","dict_itemiterator","dict_reverseitemiterator","odict_iterator","itertools.zip_longest","itertools.pairwise"].contains n=false) (hQ:Q () s):wpAny M A (letOwnedTupleGo tg (.ref it) u) Q E s:=by
 unfold letOwnedTupleGo
 cases tg <;> first
  | exact wpAny_pure hQ
  | (cases u <;> first
    | exact wpAny_pure hQ
    | (refine wpAny_bind (wpAny_load ho ?_)
       rw[hc,hd];show wpAny M A (if (["enumerate","zip","dict_itemiterator","dict_reverseitemiterator","odict_iterator","itertools.zip_longest","itertools.pairwise"].contains n&&vs[0]?==some (rawInt _))=true then _ else _) Q E s;rw[if_neg (by intro h;rw[hn,Bool.false_and]at h;cases h)]
       exact wpAny_pure hQ))
noncomputable def ZC(K:bO)(a:Addr):It:=
 ⟨fun i H => ∃ xs x,aQ K H a xs/\xs[i]? = some x,fun i H x H'=>H'=H/\∀ xs,aQ K H a xs->xs[i]? = some x,fun i H => ∃ xs,aQ K H a xs/\xs.length<=i⟩
noncomputable def Zm(K:bO)(a:Addr):It:=
 ⟨fun i H => ∃ xs x,aK K H a xs/\xs[i]? = some x,fun i H x H'=>H'=H/\∀ xs,aK K H a xs->xs[i]? = some x,fun i H => ∃ xs,aK K H a xs/\xs.length<=i⟩
noncomputable def Vw(lo:Int)(n:Nat):It:=⟨fun i _=>i<n,fun i H x H'=>H'=H/\x = .int (lo+i),fun i _=>n<=i⟩
theorem Lj{P:Program}{w:World}{K:bO}{tg:Expr}(a it:Addr):Turn P w K tg (ZC K a) [it] it (fun i h=>h.IsListIter it a i) where
 mem:=by simp
 obj:=fun i h st b hb=>by
  have e:b=it:=by simpa using hb
  subst e;obtain⟨o,e,c,d⟩:=st;exact⟨o,e,fun v z=>by rw[d]at z;cases z⟩
 keep:=fun i h h' st k=>st.at fun o e=>k it (by simp) o e
 item:=by
  intro X hP hw hK hc i pins s σ H E I hf st hg;subst hP hw hK;obtain⟨xs,x,hq,hx⟩:=hg;obtain⟨its,rv,p,hz⟩:=I.list hq;obtain⟨u,hu,ru⟩:=rv.get hx;obtain⟨f0,f1,f2,f3,f4,f5⟩:=hf it (by simp);refine wpAny_pyNext_list_item st p.isList (x:=u) (by simpa using hu) fun h' st' sb=>?_;have I1:Inv X pins σ H { s with heap:=h' }:=I.turned (t':=s.toks) (fun b o hb e=>(sb.2 b hb).trans e) f0 f1 f3 f4 f5;obtain⟨o,e,c,d⟩:=id st';exact⟨u,rfl,Ko (s:={ s with heap:=h' }) e c d (by decide) ⟨x,H,I1,ru,⟨rfl,fun ys hy=>by rw[I.Qw hy hq];exact hx⟩,st',fun b hb=>(hf b hb).1⟩⟩
 done:=by
  intro X hP hw hK hc i pins s σ H E I hf st hg;subst hP hw hK;obtain⟨xs,hq,hx⟩:=hg;obtain⟨its,rv,p,hz⟩:=I.list hq;obtain⟨f0,f1,f2,f3,f4,f5⟩:=hf it (by simp);have hl:=rv.length;exact wpAny_pyNext_list_end (I.ok.hd hc) st p.isList (by simp;lia) fun h' eb=>⟨rfl,I.turned (t':=s.toks) (fun b o hb e=>eb b o hb e) f0 f1 f3 f4 f5⟩
 self:=fun _ _ _ _ _ st h=>wpAny_pyIter_listiter st h
theorem Gj{P:Program}{w:World}{K:bO}{tg:Expr}(a it:Addr):Turn P w K tg (Zm K a) [it] it (fun i h=>h.IsTupleIter it a i) where
 mem:=by simp
 obj:=fun i h st b hb=>by
  have e:b=it:=by simpa using hb
  subst e;obtain⟨o,e,c,d⟩:=st;exact⟨o,e,fun v z=>by rw[d]at z;cases z⟩
 keep:=fun i h h' st k=>st.at fun o e=>k it (by simp) o e
 item:=by
  intro X hP hw hK hc i pins s σ H E I hf st hg;subst hP hw hK;obtain⟨xs,x,hq,hx⟩:=hg;obtain⟨its,rv,p,hz⟩:=I.tuple hq;obtain⟨u,hu,ru⟩:=rv.get hx;obtain⟨f0,f1,f2,f3,f4,f5⟩:=hf it (by simp);refine wpAny_pyNext_tuple_item st (show s.heap.IsTuple a its.toArray from p) (x:=u) (by simpa using hu) fun h' st' sb=>?_;have I1:Inv X pins σ H { s with heap:=h' }:=I.turned (t':=s.toks) (fun b o hb e=>(sb.2 b hb).trans e) f0 f1 f3 f4 f5;obtain⟨o,e,c,d⟩:=id st';exact⟨u,rfl,Ko (s:={ s with heap:=h' }) e c d (by decide) ⟨x,H,I1,ru,⟨rfl,fun ys hy=>by rw[I.xn hy hq];exact hx⟩,st',fun b hb=>(hf b hb).1⟩⟩
 done:=by
  intro X hP hw hK hc i pins s σ H E I hf st hg;subst hP hw hK;obtain⟨xs,hq,hx⟩:=hg;obtain⟨its,rv,p,hz⟩:=I.tuple hq;obtain⟨f0,f1,f2,f3,f4,f5⟩:=hf it (by simp);have hl:=rv.length;exact wpAny_pyNext_tuple_end (I.ok.hd hc) st (show s.heap.IsTuple a its.toArray from p) (by simp;lia) fun h' eb=>⟨rfl,I.turned (t':=s.toks) (fun b o hb e=>eb b o hb e) f0 f1 f3 f4 f5⟩
 self:=fun _ _ _ _ _ st h=>wpAny_pyIter_tupleiter st h
theorem Gk{P:Program}{w:World}{K:bO}{tg:Expr}(it:Addr)(lo:Int)(n:Nat):Turn P w K tg (Vw lo n) [it] it (fun i h=>IsRangeIter h it (lo+(i:Nat)*1) ((n:Int)-(i:Nat)) 1) where
 mem:=by simp
 obj:=fun i h st b hb=>by
  have e:b=it:=by simpa using hb
  subst e
  exact⟨_,st,fun v z=>by
   have z':Data.fields _=Data.cell v:=z
   cases z'⟩
 keep:=fun i h h' st k=>k it (by simp) _ st
 item:=by
  intro X hP hw hK hc i pins s σ H E I hf st hg;subst hP hw hK;obtain⟨f0,f1,f2,f3,f4,f5⟩:=hf it (by simp);have W:=Walks.range (prog:=X.prog) (w:=X.w) (I.ok.hd hc) it lo 1 n;refine W.item i s _ _ hg st fun v h' tk hv st' kk=>?_;obtain⟨t,rfl⟩:=hv;have I1:Inv X pins σ H { s with heap:=h',toks:=tk }:=I.turned (fun b o hb e=>kk b o (by simpa using hb) e) f0 f1 f3 f4 f5;refine⟨_,rfl,Ko (s:={ s with heap:=h',toks:=tk }) (n := "range_iterator") st' rfl rfl (by decide) ⟨.int (lo+i),H,I1,⟨t,?_⟩,⟨rfl,rfl⟩,st',fun b hb=>(hf b hb).1⟩⟩;rw[Int.mul_one]
 done:=by
  intro X hP hw hK hc i pins s σ H E I hf st hg;subst hP hw hK;obtain⟨f0,f1,f2,f3,f4,f5⟩:=hf it (by simp);exact wpAny_pyNext_range_end (I.ok.hd hc) st (by have:n<=i:=hg;lia) fun h' eb=>⟨rfl,I.turned (t':=s.toks) (fun b o hb e=>eb b o hb e) f0 f1 f3 f4 f5⟩
 self:=fun _ _ _ _ _ st h=>wpAny_pyIter_rangeiter st h
section
variable{X:Cx}{tg:Expr}
noncomputable def qBQ(K:bO)(tl:TE):TI:=fun σ H R=>tl σ H fun x H1 => ∃ a,x = .ref a/\(∃ xs,aQ K H1 a xs)/\R (ZC K a) H1
noncomputable def qF8(K:bO)(tl:TE):TI:=fun σ H R=>tl σ H fun x H1 => ∃ a,x = .ref a/\(∃ xs,aK K H1 a xs)/\R (Zm K a) H1
theorem yM{l:Expr}{tl:TE}(hl:PE X l tl):PI X tg l (qBQ X.K tl):=by
 intro pins s σ H R I h;refine au (hl pins s σ H _ I h) fun v s1 ⟨x,H1,I1,r1,q1⟩=>?_;obtain⟨a,e,⟨xs,hq⟩,q⟩:=q1;subst e
 cases r1
 obtain⟨its,rv,p,hz⟩:=I1.list hq;refine wpAny_pyIter_list p.isList ?_;refine⟨s1.heap.objs.size,[s1.heap.objs.size],_,_,H1,rfl,I1.kept (t':=s1.toks) fun b o e=>j5 _ e,Lj a _,⟨_,xJ _ rfl,rfl,rfl⟩,fun b hb=>?_,q⟩
 have e:b=s1.heap.objs.size:=by simpa using hb
 subst e;exact I1.wO (bM _) (I1.hok.fresh (bM _))
theorem pG{l:Expr}{tl:TE}(hl:PE X l tl):PI X tg l (qF8 X.K tl):=by
 intro pins s σ H R I h;refine au (hl pins s σ H _ I h) fun v s1 ⟨x,H1,I1,r1,q1⟩=>?_;obtain⟨a,e,⟨xs,hq⟩,q⟩:=q1;subst e
 cases r1
 obtain⟨its,rv,p,hz⟩:=I1.tuple hq;refine wpAny_pyIter_tuple (show s1.heap.IsTuple a its.toArray from p) ?_;refine⟨s1.heap.objs.size,[s1.heap.objs.size],_,_,H1,rfl,I1.kept (t':=s1.toks) fun b o e=>j5 _ e,Gj a _,⟨_,xJ _ rfl,rfl,rfl⟩,fun b hb=>?_,q⟩
 have e:b=s1.heap.objs.size:=by simpa using hb
 subst e;exact I1.wO (bM _) (I1.hok.fresh (bM _))
theorem Dm{pins:List (Addr×Obj)}{σ:St}{H:Hp}{s:Shared}{R:It->Hp->Prop}{E:Value->Shared->Prop}{lo hi:Int}{t u v:Tok}{tk:Nat}(I:Inv X pins σ H s)(h1 : -(2 ^ 62)<=lo)(h2:lo<2 ^ 62)(h3 : -(2 ^ 62)<=hi)(h4:hi<2 ^ 62)
  (q:R (Vw lo (hi-lo).toNat) H):wpAny (model X.prog X.w) X.A (pyIter (.ref s.heap.objs.size)) (PIE X pins σ tg R) E { s with heap:=s.heap.push { cls:=.type "range",data:=.fields #[.int lo t,.int hi u,.int 1 v] },toks:=tk }:=by
 refine wpAny_pyIter_range (IsRange.new ..) (small_one h1 h2 h3 h4) ?_;have I1:Inv X pins σ H { s with heap:=s.heap.push { cls:=.type "range",data:=.fields #[.int lo t,.int hi u,.int 1 v] },toks:=tk }:=I.kept fun b o e=>j5 _ e
 refine⟨(s.heap.push { cls:=.type "range",data:=.fields #[.int lo t,.int hi u,.int 1 v] }).objs.size,[(s.heap.push { cls:=.type "range",data:=.fields #[.int lo t,.int hi u,.int 1 v] }).objs.size],_,_,H,rfl,
  I1.kept (t':=tk) fun b o e=>j5 _ e,Gk _ lo (hi-lo).toNat,?_,fun b hb=>?_,q⟩
 ·have e1:lo+((0:Nat):Int)*1=lo:=by simp
  have e2:(((hi-lo).toNat:Nat):Int)-((0:Nat):Int)=Builtin.Range.rangeSize lo hi 1:=by rw[rangeSize_one];split <;> lia
  show IsRangeIter _ _ (lo+((0:Nat):Int)*1) ((((hi-lo).toNat:Nat):Int)-((0:Nat):Int)) 1;rw[e1,e2];exact xJ _ rfl
 ·have e:b=(s.heap.push { cls:=.type "range",data:=.fields #[.int lo t,.int hi u,.int 1 v] }).objs.size:=by simpa using hb
  subst e;exact I1.wO (bM _) (I1.hok.fresh (bM _))
noncomputable def qBJ(ta:TA):TI:=fun σ H R=>ta σ H fun vs H1 => ∃ j:Int,vs=[.int j] /\ -(2 ^ 62)<=j/\j<2 ^ 62/\R (Vw 0 j.toNat) H1
noncomputable def qBI(ta:TA):TI:=fun σ H R=>ta σ H fun vs H1 => ∃ i j:Int,vs=[.int i,.int j]/\(-(2 ^ 62)<=i/\i<2 ^ 62 /\ -(2 ^ 62)<=j/\j<2 ^ 62)/\R (Vw i (j-i).toNat) H1
theorem bT{a:Expr}{ta:TA}{p pos:Pos}(hg:Gl X "range")(hm:X.mg "range" = none)(ha:PA X [a] ta)(hs:starEach [a] X.env=[(false,eval a X.env)]:=by rfl):PI X tg (.Call (.Name "range" p) [a] [] pos) (qBJ ta):=by
 intro pins s σ H R I h;refine Call_ (mY I hg hm boot_range (PyProof.Rows.callWith_type1 (au (ha pos pins s σ H _ I h) fun us s1 ⟨vs,H1,I1,r1,q1⟩=>?_) hs rfl));obtain⟨j,e,q1,q2,q⟩:=q1;subst e
 cases r1 with
 | cons r rr=>
  cases rr
  obtain⟨t,rfl⟩:=r;exact call_range_1 (Dm I1 (by lia) (by lia) q1 q2 (by simpa using q))
theorem sW{a b:Expr}{ta:TA}{p pos:Pos}(hg:Gl X "range")(hm:X.mg "range" = none)(ha:PA X [a,b] ta)(hs:starEach [a,b] X.env=[(false,eval a X.env),(false,eval b X.env)]:=by rfl)(hs2:starEach [b] X.env=[(false,eval b X.env)]:=by rfl) :
  PI X tg (.Call (.Name "range" p) [a,b] [] pos) (qBI ta):=by
 intro pins s σ H R I h;refine Call_ (mY I hg hm boot_range (PyProof.Rows.callWith_type1 (au (ha pos pins s σ H _ I h) fun us s1 ⟨vs,H1,I1,r1,q1⟩=>?_) (by rw[hs,hs2]) (by rw[hs2];rfl)));obtain⟨i,j,e,⟨q1,q2,q3,q4⟩,q⟩:=q1;subst e
 cases r1 with
 | cons r rr=>
  cases rr with
  | cons r' rr=>
   cases rr
   obtain⟨t,rfl⟩:=r;obtain⟨t',rfl⟩:=r';exact call_range_2 (Dm I1 q1 q2 q3 q4 q)
noncomputable def qEB(wi:TI)(g:TG)(tb:TS):TS:=fun D σ H=>wi σ H fun J H1 => ∃ W:Nat->Nat->St->Hp->Prop,(∃ m,W 0 m σ H1)/\∀ i m σ H,W i m σ H →
 (J.stop i H/\D.nx σ H)∨(J.go i H/\∃ N:St->Hp->Prop,(∀ σ' H',N σ' H'->∃ m',m'<m/\W (i+1) m' σ' H')/\∀ x H',J.Th i H x H'->g x σ H' fun σ2 H2=>tb { D with nx:=N,ct:=N,bk:=D.nx } σ2 H2)
noncomputable def sV(fp:List Addr)(h:Heap):List (Addr×Obj):=fp.filterMap fun b=>(h.get? b).map fun o=>(b,o)
theorem lF{fp:List Addr}{h:Heap}{b:Addr}{o:Obj}(hb:b∈fp)(e:h.get? b=some o):(b,o)∈sV fp h:=List.mem_filterMap.mpr ⟨b,hb,by rw[e];rfl⟩
theorem MT{fp:List Addr}{h:Heap}{p:Addr×Obj}(hp:p∈sV fp h):p.1∈fp/\h.get? p.1=some p.2:=by
 obtain⟨b,hb,e⟩:=List.mem_filterMap.mp hp
 cases q:h.get? b with
 | none=>rw[q]at e;cases e
 | some o=>
  rw[q]at e;have e':(b,o)=p:=jO e;subst e';exact⟨hb,q⟩
theorem Inv.pinned{pins:List (Addr×Obj)}{σ:St}{H:Hp}{s:Shared}{fp:List Addr}(I:Inv X pins σ H s)(hf:∀ b∈fp,gM X pins H b)(ho:∀ b∈fp,∃ o,s.heap.get? b=some o/\∀ v,o.data≠.cell v):Inv X (pins++sV fp s.heap) σ H s:=
 I.qY fun p hp=>(cX.mp hp).elim (fun z=>I.pin p (List.mem_append_right _ z)) fun z=>by
  obtain⟨hb,e⟩:=MT z;obtain⟨f0,f1,f2,_⟩:=hf p.1 hb;obtain⟨o,e',d⟩:=ho p.1 hb;rw[e]at e';cases e';exact⟨e,f0,f1,f2,d⟩
theorem Inv.v8{pins pl:List (Addr×Obj)}{σ:St}{H:Hp}{s:Shared}(I:Inv X (pins++pl) σ H s):Inv X pins σ H s:=I.qY fun p hp=>I.pin p (List.mem_append_right _ (List.mem_append_left _ hp))
theorem bU{iter:Expr}{body:List Stmt}{wi:TI}{g:TG}{tb:TS}{pos:Pos}(hp:PassesOwn (model X.prog X.w) X.A X.env X.xe)(hc:X.calm=true)(hi:PI X tg iter wi)(hg:PG X tg g)(hb:Ac X body tb)
  (hs:∀ x,foldedSetIterable iter X.env x=pure x:=by intro _;rfl):PS X (.For tg iter body [] pos) (qEB wi g tb):=by
 intro pins s σ H D I h;refine wpAny_For (au (hi pins s σ H _ I h) fun v s1 h1=>au h1 fun itv s2 h2=>?_) hs;obtain⟨it,fp,tn,J,H2,e,I2,T,st2,f2,W,⟨m0,w0⟩,turn⟩:=h2;subst e;have stat:∀ {H':Hp},(∀ b∈fp,H' b=none)->∀ b∈fp,gM X pins H' b:=fun hn b hb=>⟨hn b hb,(f2 b hb).2⟩;refine codeAny_forLoop_any (fun n s'=>∃ i σ' H',Inv X pins σ' H' s'/\tn i s'.heap/\(∀ b∈fp,H' b=none)/\W i n σ' H') ?_ m0 ⟨0,σ,H2,I2,st2,fun b hb=>(f2 b hb).1,w0⟩;rintro n s3 ⟨i,σ3,H3,I3,st3,fr3,w3⟩;rcases turn i n σ3 H3 w3 with ⟨stop,qn⟩ | ⟨go,N,hN,step⟩
 ·refine wpAny_passesOwn hp (au (T.done X rfl rfl rfl hc i pins s3 σ3 H3 X.xe I3 (stat fr3) st3 stop) fun r s4 ⟨hr,I4⟩=>?_);subst hr;exact wpAny_execs_nil ⟨σ3,H3,I4,qn⟩
 ·refine wpAny_passesOwn hp (au (T.item X rfl rfl rfl hc i pins s3 σ3 H3 X.xe I3 (stat fr3) st3 go) fun r s4 ⟨u,hr,h4⟩=>?_);subst hr;refine wpAny_passesOwn hp (au h4 fun _ s5 ⟨x,H5,I5,r5,y5,rQ,fr5⟩=>?_);have I5':=I5.pinned (stat fr5) (T.obj _ _ rQ);refine wpAny_passesOwn hp (au (hg _ s5 σ3 H5 x u _ I5' r5 (step x H5 y5)) fun _ s6 ⟨σ6,H6,I6,q6⟩=>?_);refine wpAny_passesOwn hp (au (hb _ s6 σ6 H6 _ I6 q6) fun f s7 q7=>?_)
  have again:∀ {σ7:St} {H7:Hp},Inv X (pins++sV fp s5.heap) σ7 H7 s7->N σ7 H7->∃ m,m<n/\∃ i σ' H',Inv X pins σ' H' s7/\tn i s7.heap/\(∀ b∈fp,H' b=none)/\W i m σ' H':=fun {σ7 H7} I7 n7=>by
   obtain⟨m',hm,w7⟩:=hN σ7 H7 n7;refine⟨m',hm,i+1,σ7,H7,I7.v8,T.keep _ _ _ rQ fun b hb o e=>(I7.pin (b,o) (List.mem_append_right _ (List.mem_append_right _ (lF hb e)))).1,fun b hb=>?_,w7⟩;obtain⟨o,e,d⟩:=T.obj _ _ rQ b hb;exact (I7.pin (b,o) (List.mem_append_right _ (List.mem_append_right _ (lF hb e)))).2.1
  cases f with
  | next=>obtain⟨σ7,H7,I7,n7⟩:=q7;exact again I7 n7
  | cont=>obtain⟨σ7,H7,I7,n7⟩:=q7;exact again I7 n7
  | brk=>obtain⟨σ7,H7,I7,q7⟩:=q7;exact⟨σ7,H7,I7.v8,q7⟩
  | ret v=>obtain⟨x7,σ7,H7,I7,r7,q7⟩:=q7;exact⟨x7,σ7,H7,I7.v8,r7,q7⟩
end
theorem fK{K:bO}{a:Addr}{xs:List V}{g:TG}{tb:TS}{D:Ends}{σ:St}{H:Hp}(Pv:Nat->St->Hp->Prop)(h0:Pv 0 σ H)(hl:∀ i σ H,i<=xs.length->Pv i σ H->aQ K H a xs)
  (hs:∀ i x σ H,xs[i]? = some x->Pv i σ H->g x σ H fun σ2 H2=>tb { D with nx:=Pv (i+1),ct:=Pv (i+1),bk:=D.nx } σ2 H2) (hd:∀ σ H,Pv xs.length σ H->D.nx σ H) :
  ∃ W:Nat->Nat->St->Hp->Prop,(∃ m,W 0 m σ H)/\∀ i m σ H,W i m σ H →
   ((ZC K a).stop i H/\D.nx σ H)∨((ZC K a).go i H/\∃ N:St->Hp->Prop,(∀ σ' H',N σ' H'->∃ m',m'<m/\W (i+1) m' σ' H')/\∀ x H',(ZC K a).Th i H x H'->g x σ H' fun σ2 H2=>tb { D with nx:=N,ct:=N,bk:=D.nx } σ2 H2):=by
 refine⟨fun i m σ H=>m=xs.length-i/\i<=xs.length/\Pv i σ H,⟨xs.length,by simp,Nat.zero_le _,h0⟩,?_⟩;rintro i m σ H ⟨rfl,hi,p⟩;have q:=hl i σ H hi p
 by_cases hlt:i<xs.length
 ·refine .inr ⟨⟨xs,xs[i],q,by simp [hlt]⟩,Pv (i+1),fun σ' H' p'=>⟨xs.length-(i+1),by lia,rfl,hlt,p'⟩,fun x H' y=>?_⟩;obtain⟨e,y⟩:=y;subst e;exact hs i x σ _ (y xs q) p
 ·have e:i=xs.length:=by lia
  subst e;exact .inl ⟨⟨xs,q,bM _⟩,hd σ H p⟩
theorem Kp{K:bO}{a:Addr}{xs:List V}{g:TG}{tb:TS}{D:Ends}{σ:St}{H:Hp}(Pv:Nat->St->Hp->Prop)(h0:Pv 0 σ H)(hl:∀ i σ H,i<=xs.length->Pv i σ H->aK K H a xs)
  (hs:∀ i x σ H,xs[i]? = some x->Pv i σ H->g x σ H fun σ2 H2=>tb { D with nx:=Pv (i+1),ct:=Pv (i+1),bk:=D.nx } σ2 H2) (hd:∀ σ H,Pv xs.length σ H->D.nx σ H) :
  ∃ W:Nat->Nat->St->Hp->Prop,(∃ m,W 0 m σ H)/\∀ i m σ H,W i m σ H →
   ((Zm K a).stop i H/\D.nx σ H)∨((Zm K a).go i H/\∃ N:St->Hp->Prop,(∀ σ' H',N σ' H'->∃ m',m'<m/\W (i+1) m' σ' H')/\∀ x H',(Zm K a).Th i H x H'->g x σ H' fun σ2 H2=>tb { D with nx:=N,ct:=N,bk:=D.nx } σ2 H2):=by
 refine⟨fun i m σ H=>m=xs.length-i/\i<=xs.length/\Pv i σ H,⟨xs.length,by simp,Nat.zero_le _,h0⟩,?_⟩;rintro i m σ H ⟨rfl,hi,p⟩;have q:=hl i σ H hi p
 by_cases hlt:i<xs.length
 ·refine .inr ⟨⟨xs,xs[i],q,by simp [hlt]⟩,Pv (i+1),fun σ' H' p'=>⟨xs.length-(i+1),by lia,rfl,hlt,p'⟩,fun x H' y=>?_⟩;obtain⟨e,y⟩:=y;subst e;exact hs i x σ _ (y xs q) p
 ·have e:i=xs.length:=by lia
  subst e;exact .inl ⟨⟨xs,q,bM _⟩,hd σ H p⟩
theorem cT{lo:Int}{n:Nat}{g:TG}{tb:TS}{D:Ends}{σ:St}{H:Hp}(Pv:Nat->St->Hp->Prop)(h0:Pv 0 σ H)
  (hs:∀ i σ H,i<n->Pv i σ H->g (.int (lo+i)) σ H fun σ2 H2=>tb { D with nx:=Pv (i+1),ct:=Pv (i+1),bk:=D.nx } σ2 H2) (hd:∀ σ H,Pv n σ H->D.nx σ H) :
  ∃ W:Nat->Nat->St->Hp->Prop,(∃ m,W 0 m σ H)/\∀ i m σ H,W i m σ H →
   ((Vw lo n).stop i H/\D.nx σ H)∨((Vw lo n).go i H/\∃ N:St->Hp->Prop,(∀ σ' H',N σ' H'->∃ m',m'<m/\W (i+1) m' σ' H')/\∀ x H',(Vw lo n).Th i H x H'->g x σ H' fun σ2 H2=>tb { D with nx:=N,ct:=N,bk:=D.nx } σ2 H2):=by
 refine⟨fun i m σ H=>m=n-i/\i<=n/\Pv i σ H,⟨n,by simp,Nat.zero_le _,h0⟩,?_⟩;rintro i m σ H ⟨rfl,hi,p⟩
 by_cases hlt:i<n
 ·refine .inr ⟨hlt,Pv (i+1),fun σ' H' p'=>⟨n-(i+1),by lia,rfl,hlt,p'⟩,fun x H' y=>?_⟩;obtain⟨e,y⟩:=y;subst e y;exact hs i σ _ hlt p
 ·have e:i=n:=by lia
  subst e;exact .inl ⟨bM _,hd σ H p⟩
noncomputable abbrev R2:=V->V->Hp->VK->Prop
noncomputable def jZ(X:Cx)(f:Value->Value->Sem Value)(r:R2):Prop:=
 ∀(pins:List (Addr×Obj))(s:Shared)(σ:St)(H:Hp)(x y:V)(v u:Value)(Q:VK),Inv X pins σ H s->RelV x v->RelV y u->r x y H Q →
  wpAny (model X.prog X.w) X.A (f v u) (EP X pins σ Q) X.xe s
noncomputable def UnR(X:Cx)(f:Value->Sem Value)(r:V->Hp->VK->Prop):Prop:=
 ∀(pins:List (Addr×Obj))(s:Shared)(σ:St)(H:Hp)(x:V)(v:Value)(Q:VK),Inv X pins σ H s->RelV x v->r x H Q →
  wpAny (model X.prog X.w) X.A (f v) (EP X pins σ Q) X.xe s
noncomputable def jz(X:Cx)(f:Value)(r:List V->Hp->VK->Prop):Prop:=
 ∀(pins:List (Addr×Obj))(s:Shared)(σ:St)(H:Hp)(xs:List V)(us:List Value)(Q:VK),Inv X pins σ H s->Vals xs us->r xs H Q →
  wpAny (model X.prog X.w) X.A (call f us) (EP X pins σ Q) X.xe s
noncomputable def tOp(r:R2)(ta tb:TE):TE:=fun σ H Q=>ta σ H fun x H1=>tb σ H1 fun y H2=>r x y H2 Q
noncomputable def tUn(r:V->Hp->VK->Prop)(ta:TE):TE:=fun σ H Q=>ta σ H fun x H1=>r x H1 Q
noncomputable def rI(C:Int->Int->Prop)(g:Int->Int->V):R2:=fun x y H Q => ∃ i j,x = .int i/\y = .int j/\C i j/\Q (g i j) H
noncomputable def Ly(g:Int->Int->V):R2:=fun x y H Q => ∃ i j,x = .int i/\y = .int j/\Q (g i j) H
noncomputable def rU(g:Int->V):V->Hp->VK->Prop:=fun x H Q => ∃ i,x = .int i/\Q (g i) H
section
variable{X:Cx}{a b c:Expr}{ta tb tc:TE}{pos:Pos}
theorem Z2(ha:PE X a ta)(hb:PE X b tb){pins:List (Addr×Obj)}{s:Shared}{σ:St}{H:Hp}{R:V->V->Hp->Prop}(I:Inv X pins σ H s)
  (h:ta σ H fun x H1=>tb σ H1 fun y H2=>R x y H2) {Q:Value->Shared->Prop} {f:Value->Value->Sem Value}
  (hf:∀ v u s2 x y H2,Inv X pins σ H2 s2->RelV x v->RelV y u->R x y H2->wpAny (model X.prog X.w) X.A (f v u) Q X.xe s2) :
  wpAny (model X.prog X.w) X.A (eval a X.env) (fun v s₁=>wpAny (model X.prog X.w) X.A (eval b X.env) (fun u s₂=>wpAny (model X.prog X.w) X.A (f v u) Q X.xe s₂) X.xe s₁) X.xe s:=by
 refine au (ha pins s σ H _ I h) fun v s1 ⟨x,H1,I1,r1,q1⟩=>?_;refine au (hb pins s1 σ H1 _ I1 q1) fun u s2 ⟨y,H2,I2,r2,q2⟩=>?_;exact hf v u s2 x y H2 I2 r1 r2 q2
theorem yC{op:Operator}{r:R2}(ho:jZ X (binaryOp op) r)(ha:PE X a ta)(hb:PE X b tb):PE X (.BinOp a op b pos) (tOp r ta tb):=by
 intro pins s σ H Q I h;exact wpAny_BinOp (Z2 ha hb I h fun v u s2 x y H2 I2 rx ry q=>ho pins s2 σ H2 x y v u Q I2 rx ry q)
theorem QD{op:UnaryOp}{r:V->Hp->VK->Prop}(ho:UnR X (unaryOp op) r)(ha:PE X a ta):PE X (.UnaryOp op a pos) (tUn r ta):=by
 intro pins s σ H Q I h;exact UnaryOp_ (au (ha pins s σ H _ I h) fun v s1 ⟨x,H1,I1,r1,q1⟩=>ho pins s1 σ H1 x v Q I1 r1 q1)
theorem opI{f:Value->Value->Sem Value}{C:Int->Int->Prop}{g:Int->Int->Int}
  (rule:∀(i j:Int)(t u:Tok)(s:Shared)(Q:Value->Shared->Prop)(E:Value->Shared->Prop),C i j->Q (.int (g i j) s.toks) { s with toks:=s.toks+1 }->wpAny (model X.prog X.w) X.A (f (.int i t) (.int j u)) Q E s) :
  jZ X f (rI C fun i j=>.int (g i j)):=by
 intro pins s σ H x y v u Q I rx ry h;obtain⟨i,j,rfl,rfl,hc,q⟩:=h;obtain⟨t,rfl⟩:=rx;obtain⟨t',rfl⟩:=ry;exact rule i j t t' s _ _ hc ⟨.int (g i j),H,I.tok _,⟨_,rfl⟩,q⟩
theorem Xn{f:Value->Value->Sem Value}{g:Int->Int->Int}
  (rule:∀(i j:Int)(t u:Tok)(s:Shared)(Q:Value->Shared->Prop)(E:Value->Shared->Prop),Q (.int (g i j) s.toks) { s with toks:=s.toks+1 }->wpAny (model X.prog X.w) X.A (f (.int i t) (.int j u)) Q E s) :
  jZ X f (Ly fun i j=>.int (g i j)):=by
 intro pins s σ H x y v u Q I rx ry h;obtain⟨i,j,rfl,rfl,q⟩:=h;obtain⟨t,rfl⟩:=rx;obtain⟨t',rfl⟩:=ry;exact rule i j t t' s _ _ ⟨.int (g i j),H,I.tok _,⟨_,rfl⟩,q⟩
theorem Uu{f:Value->Value->Sem Value}{g:Int->Int->Bool}
  (rule:∀(i j:Int)(t u:Tok)(s:Shared)(Q:Value->Shared->Prop)(E:Value->Shared->Prop),Q (.bool (g i j)) s->wpAny (model X.prog X.w) X.A (f (.int i t) (.int j u)) Q E s) :
  jZ X f (Ly fun i j=>.bl (g i j)):=by
 intro pins s σ H x y v u Q I rx ry h;obtain⟨i,j,rfl,rfl,q⟩:=h;obtain⟨t,rfl⟩:=rx;obtain⟨t',rfl⟩:=ry;exact rule i j t t' s _ _ ⟨.bl (g i j),H,I,rfl,q⟩
noncomputable def qGL(i j:Int):Prop:=0<j/\j<1073741824
noncomputable def qGK(i j:Int):Prop:=0<=j/\j<=1000000/\i.natAbs<2 ^ 64
noncomputable def W2(i j:Int):Prop:=(-(2 ^ 64)<i/\i<2 ^ 64)∨(-(2 ^ 64)<j/\j<2 ^ 64)
theorem W2.ok{i j:Int}(h:W2 i j):IntMulOk i j:=by
 rcases h with ⟨h1,h2⟩ | ⟨h1,h2⟩
 ·exact .of_left (intBits_le_64 h1 h2)
 ·exact .of_right (intBits_le_64 h1 h2)
theorem Gi(k:Nat):(0:Int)<=2 ^ k:=by
 rw[two_pow_cast];exact Int.natCast_nonneg _
theorem yF:jZ X (binaryOp .Add) (Ly fun i j=>.int (i+j)):=Xn fun _ _ _ _ _ _ _ q=>add_int q
theorem lC:jZ X (binaryOp .Sub) (Ly fun i j=>.int (i-j)):=Xn fun _ _ _ _ _ _ _ q=>sub_int q
theorem fW:jZ X (binaryOp .Mult) (rI W2 fun i j=>.int (i*j)):=opI fun _ _ _ _ _ _ _ hc q=>mul_int q hc.ok
theorem yL:jZ X (binaryOp .FloorDiv) (rI qGL fun i j=>.int (i/j)):=opI fun i j _ _ _ _ _ hc q=>by
 have h1:(0:Int)<j:=hc.1;have h2:j<1073741824:=hc.2;exact floordiv_int (by lia) (by rw[Int.fdiv_eq_ediv_of_nonneg i (by lia)];exact q) (.inl (PyProof.noPylong_small (by lia)))
theorem zY:jZ X (binaryOp .Mod) (rI (fun _ j=>0<j) fun i j=>.int (i%j)):=opI fun i j _ _ _ _ _ hc q=>by
 have h1:(0:Int)<j:=hc;exact mod_int' (by lia) (by rw[Int.fmod_eq_emod_of_nonneg i (by lia)];exact q)
theorem QQ:jZ X (binaryOp .Pow) (rI qGK fun i j=>.int (i ^ j.toNat)):=opI fun _ _ _ _ _ _ _ hc q=>pow_int_small hc.1 hc.2.1 hc.2.2 q
theorem Xl:jZ X (binaryOp .RShift) (rI (fun _ j=>0<=j) fun i j=>.int (i/2 ^ j.toNat)):=opI fun i j _ _ _ _ _ hc q=>
 rshift_int hc (by rw[Int.fdiv_eq_ediv_of_nonneg i (Gi _)];exact q)
theorem QS:jZ X (binaryOp .BitAnd) (Ly fun i j=>.int (Builtin.bitAnd i j)):=Xn fun _ _ _ _ _ _ _ q=>and_int q
theorem unI{f:Value->Sem Value}{g:Int->Int}
  (rule:∀(i:Int)(t:Tok)(s:Shared)(Q:Value->Shared->Prop)(E:Value->Shared->Prop),Q (.int (g i) s.toks) { s with toks:=s.toks+1 }->wpAny (model X.prog X.w) X.A (f (.int i t)) Q E s) :
  UnR X f (rU fun i=>.int (g i)):=by
 intro pins s σ H x v Q I rx h;obtain⟨i,rfl,q⟩:=h;obtain⟨t,rfl⟩:=rx;exact rule i t s _ _ ⟨.int (g i),H,I.tok _,⟨_,rfl⟩,q⟩
theorem Gh:UnR X (unaryOp .USub) (rU fun i=>.int (-i)):=unI fun _ _ _ _ _ q=>neg_int q
noncomputable def U4:V->V->Bool
 | .non,.non=>true | .non,.int _=>true | .int _,.non=>true | .non,.bl _=>true | .bl _,.non=>true | .non,.str _=>true | .str _,.non=>true
 | .int _,.int _=>true | .bl _,.bl _=>true | .str _,.str _=>true | .O9 _,.O9 _=>true
 | .int _,.str _=>true | .str _,.int _=>true | .bl _,.str _=>true | .str _,.bl _=>true
 | _,_=>false
noncomputable def rEq:R2:=fun x y H Q=>U4 x y=true/\Q (.bl (decide (x=y))) H
noncomputable def rNe:R2:=fun x y H Q=>U4 x y=true/\Q (.bl (!decide (x=y))) H
theorem Kz{i j:Int}:decide (V.int i=V.int j)=(i==j):=by
 rw[Bool.eq_iff_iff];simp
theorem Rw{i j:Bool}:decide (V.bl i=V.bl j)=(i==j):=by
 rw[Bool.eq_iff_iff];simp
theorem Ky{i j:Str}:decide (V.str i=V.str j)=(i==j):=by
 rw[Bool.eq_iff_iff];simp
theorem LC{i j:Array UInt8}:decide (V.O9 i=V.O9 j)=(i.toList==j.toList):=by
 rw[Bool.eq_iff_iff]
 cases i
 cases j
 simp
theorem aj{pins:List (Addr×Obj)}{σ:St}{H:Hp}{s:Shared}{Q:VK}{k k':Bool}(I:Inv X pins σ H s)(q:Q (.bl k) H)(e:k=k'):EP X pins σ Q (.bool k') s:=by
 subst e;exact⟨.bl k,H,I,rfl,q⟩
theorem yG:jZ X (compareOp .Eq) rEq:=by
 intro pins s σ H x y v u Q I rx ry h;obtain⟨hs,q⟩:=h
 cases x with
 | non=>
  cases rx
  cases y with
  | non=>cases ry;exact PySem.EqNone.eq_none_none (aj I q (by simp))
  | bl j=>cases ry;exact PySem.EqNone.eq_none_bool (aj I q (by simp))
  | int j=>obtain⟨t',rfl⟩:=ry;exact PySem.EqNone.eq_none_int (aj I q (by simp))
  | str j=>obtain⟨t',rfl⟩:=ry;exact PySem.EqNone.eq_none_str (aj I q (by simp))
  | _=>exact absurd (show false=true from hs) pZ
 | bl i=>
  cases rx
  cases y with
  | non=>cases ry;exact PySem.EqNone.eq_bool_none (aj I q (by simp))
  | bl j=>cases ry;exact eq_bool (aj I q Rw)
  | str j=>obtain⟨t',rfl⟩:=ry;exact PySem.EqMixed.eq_bool_str (aj I q (by simp))
  | _=>exact absurd (show false=true from hs) pZ
 | int i=>
  obtain⟨t,rfl⟩:=rx
  cases y with
  | non=>cases ry;exact PySem.EqNone.eq_int_none (aj I q (by simp))
  | int j=>obtain⟨t',rfl⟩:=ry;exact eq_int (aj I q Kz)
  | str j=>obtain⟨t',rfl⟩:=ry;exact PySem.EqMixed.eq_int_str (aj I q (by simp))
  | _=>exact absurd (show false=true from hs) pZ
 | str i=>
  obtain⟨t,rfl⟩:=rx
  cases y with
  | non=>cases ry;exact PySem.EqNone.eq_str_none (aj I q (by simp))
  | bl j=>cases ry;exact PySem.EqMixed.eq_str_bool (aj I q (by simp))
  | int j=>obtain⟨t',rfl⟩:=ry;exact PySem.EqMixed.eq_str_int (aj I q (by simp))
  | str j=>obtain⟨t',rfl⟩:=ry;exact eq_str (aj I q Ky)
  | _=>exact absurd (show false=true from hs) pZ
 | O9 i=>
  obtain⟨t,rfl⟩:=rx
  cases y with
  | O9 j=>obtain⟨t',rfl⟩:=ry;exact PySem.W.eq_bytes (aj I q LC)
  | _=>exact absurd (show false=true from hs) pZ
 | _=>cases y <;> exact absurd (show false=true from hs) pZ
theorem ym:jZ X (compareOp .NotEq) rNe:=by
 intro pins s σ H x y v u Q I rx ry h;obtain⟨hs,q⟩:=h
 cases x with
 | non=>
  cases rx
  cases y with
  | non=>cases ry;exact PySem.EqNone.ne_none_none (aj I q (by simp))
  | bl j=>cases ry;exact PySem.EqNone.ne_none_bool (aj I q (by simp))
  | int j=>obtain⟨t',rfl⟩:=ry;exact PySem.EqNone.ne_none_int (aj I q (by simp))
  | str j=>obtain⟨t',rfl⟩:=ry;exact PySem.EqNone.ne_none_str (aj I q (by simp))
  | _=>exact absurd (show false=true from hs) pZ
 | bl i=>
  cases rx
  cases y with
  | non=>cases ry;exact PySem.EqNone.ne_bool_none (aj I q (by simp))
  | bl j=>cases ry;exact ne_bool (aj I q (congrArg not Rw))
  | str j=>obtain⟨t',rfl⟩:=ry;exact PySem.EqMixed.ne_bool_str (aj I q (by simp))
  | _=>exact absurd (show false=true from hs) pZ
 | int i=>
  obtain⟨t,rfl⟩:=rx
  cases y with
  | non=>cases ry;exact PySem.EqNone.ne_int_none (aj I q (by simp))
  | int j=>obtain⟨t',rfl⟩:=ry;exact ne_int (aj I q (congrArg not Kz))
  | str j=>obtain⟨t',rfl⟩:=ry;exact PySem.EqMixed.ne_int_str (aj I q (by simp))
  | _=>exact absurd (show false=true from hs) pZ
 | str i=>
  obtain⟨t,rfl⟩:=rx
  cases y with
  | non=>cases ry;exact PySem.EqNone.ne_str_none (aj I q (by simp))
  | bl j=>cases ry;exact PySem.EqMixed.ne_str_bool (aj I q (by simp))
  | int j=>obtain⟨t',rfl⟩:=ry;exact PySem.EqMixed.ne_str_int (aj I q (by simp))
  | str j=>obtain⟨t',rfl⟩:=ry;exact ne_str (aj I q (congrArg not Ky))
  | _=>exact absurd (show false=true from hs) pZ
 | O9 i=>
  obtain⟨t,rfl⟩:=rx
  cases y with
  | O9 j=>obtain⟨t',rfl⟩:=ry;exact PySem.W.ne_bytes (aj I q (congrArg not LC))
  | _=>exact absurd (show false=true from hs) pZ
 | _=>cases y <;> exact absurd (show false=true from hs) pZ
theorem lR:jZ X (compareOp .Lt) (Ly fun i j=>.bl (decide (i<j))):=Uu fun _ _ _ _ _ _ _ q=>lt_int q
theorem QR:jZ X (compareOp .LtE) (Ly fun i j=>.bl (decide (i<=j))):=Uu fun _ _ _ _ _ _ _ q=>le_int q
theorem jD:jZ X (compareOp .Gt) (Ly fun i j=>.bl (decide (j<i))):=Uu fun _ _ _ _ _ _ _ q=>gt_int q
theorem WR:jZ X (compareOp .GtE) (Ly fun i j=>.bl (decide (j<=i))):=Uu fun _ _ _ _ _ _ _ q=>ge_int q
theorem jU:jZ X (compareOp .Is) (fun x y H Q=>y = .non/\Q (.bl (decide (x = .non))) H):=by
 intro pins s σ H x y v u Q I rx ry h;obtain⟨rfl,q⟩:=h
 cases ry
 refine is_none_gen (aj I q ?_)
 cases x <;> first
  | (cases rx;rfl)
  | (obtain⟨t,rfl⟩:=rx;rfl)
theorem Ut:jZ X (compareOp .IsNot) (fun x y H Q=>y = .non/\Q (.bl (!decide (x = .non))) H):=by
 intro pins s σ H x y v u Q I rx ry h;obtain⟨rfl,q⟩:=h
 cases ry
 refine isnot_none_gen (aj I q ?_)
 cases x <;> first
  | (cases rx;rfl)
  | (obtain⟨t,rfl⟩:=rx;rfl)
theorem jZ.or{f:Value->Value->Sem Value}{r r':R2}(h:jZ X f r)(h':jZ X f r'):jZ X f (fun x y H Q=>r x y H Q∨r' x y H Q):=by
 intro pins s σ H x y v u Q I rx ry q;rcases q with q | q
 ·exact h pins s σ H x y v u Q I rx ry q
 ·exact h' pins s σ H x y v u Q I rx ry q
theorem zR(b:Expr){op:CmpOp}(h:op≠.In:=by decide)(h2:op≠.NotIn:=by decide):behindInMarks op b=false:=by
 have e1:(op==CmpOp.In)=false:=by cases op <;> first | rfl | exact absurd rfl h
 have e2:(op==CmpOp.NotIn)=false:=by cases op <;> first | rfl | exact absurd rfl h2
 cases b <;> simp [behindInMarks,e1,e2]
theorem nj{op:CmpOp}{r:R2}(ho:jZ X (compareOp op) r)(ha:PE X a ta)(hb:PE X b tb)(hm:behindInMarks op b=false):PE X (.Compare a [op] [b] pos) (tOp r ta tb):=by
 intro pins s σ H Q I h;exact wpAny_Compare1 (Z2 ha hb I h fun v u s2 x y H2 I2 rx ry q=>ho pins s2 σ H2 x y v u Q I2 rx ry q) hm
noncomputable def W6(t:TE):TT:=fun σ H Q=>t σ H fun x H'=>∃ k,x = .bl k/\Q k H'
theorem zL{op:CmpOp}{r:R2}(ho:jZ X (compareOp op) r)(ha:PE X a ta)(hb:PE X b tb)(hm:behindInMarks op b=false):PT X (.Compare a [op] [b] pos) (W6 (tOp r ta tb)):=by
 intro pins s σ H Q I h
 refine wpAny_isTrue_Compare1 (au (ha pins s σ H _ I h) fun v s1 ⟨x,H1,I1,r1,q1⟩=>au (hb pins s1 σ H1 _ I1 q1) fun u s2 ⟨y,H2,I2,r2,q2⟩=>
  au (ho pins s2 σ H2 x y v u _ I2 r1 r2 q2) fun c s3 ⟨z,H3,I3,r3,k,e,q3⟩=>?_) hm
 subst e
 cases r3
 exact wpAny_truthy_bool ⟨H3,I3,q3⟩
noncomputable def X7(r r':R2)(ta tb tc:TE):TE:=fun σ H Q=>ta σ H fun x H1=>tb σ H1 fun y H2=>r x y H2 fun z H3 => ∃ k,z = .bl k ∧
 (if k=true then tc σ H3 fun w' H4=>r' y w' H4 Q else Q (.bl false) H3)
theorem QG{op op':CmpOp}{r r':R2}(ho:jZ X (compareOp op) r)(ho':jZ X (compareOp op') r')(ha:PE X a ta)(hb:PE X b tb)(hc:PE X c tc)
  (hm:lastMarks [op,op'] [b,c]=false:=by with_unfolding_all rfl):PE X (.Compare a [op,op'] [b,c] pos) (X7 r r' ta tb tc):=by
 intro pins s σ H Q I h
 refine Compare_chain (au (ha pins s σ H _ I h) fun v s1 ⟨x,H1,I1,r1,q1⟩=>chain_link (au (hb pins s1 σ H1 _ I1 q1) fun u s2 ⟨y,H2,I2,r2,q2⟩=>
  au (ho pins s2 σ H2 x y v u _ I2 r1 r2 q2) fun d s3 ⟨z,H3,I3,r3,k,e,q3⟩=>?_)) hm
 subst e
 cases r3
 refine wpAny_truthy_bool ?_
 cases k with
 | false=>exact ite_ff ⟨.bl false,H3,I3,rfl,q3⟩
 | true=>exact ite_tt (chain_last (au (hc pins s3 σ H3 _ I3 q3) fun w' s4 ⟨z',H4,I4,r4,q4⟩=>ho' pins s4 σ H4 y z' u w' Q I4 r2 r4 q4))
theorem t7:(sizeLine:Nat)<2 ^ 63:=by rw[sizeLine_eq];decide
theorem wA:jZ X (binaryOp .Add) (fun x y H Q => ∃ i j,x = .str i/\y = .str j/\i.length+j.length<=sizeLine/\Q (.str (i++j)) H):=by
 intro pins s σ H x y v u Q I rx ry h;obtain⟨i,j,rfl,rfl,hz,q⟩:=h;obtain⟨t,rfl⟩:=rx;obtain⟨t',rfl⟩:=ry;exact add_str (fun t' tk=>⟨.str (i++j),H,I.tok _,⟨_,rfl⟩,q⟩) hz
theorem vals1{x:V}{us:List Value}(r:Vals [x] us):∃ u,us=[u]/\RelV x u:=by
 cases r with
 | cons r1 r2=>cases r2;exact⟨_,rfl,r1⟩
theorem vals2{x y:V}{us:List Value}(r:Vals [x,y] us):∃ u w',us=[u,w']/\RelV x u/\RelV y w':=by
 cases r with
 | cons r1 r2=>
  cases r2 with
  | cons r3 r4=>cases r4;exact⟨_,_,rfl,r1,r3⟩
theorem Nb(hc:X.calm=true):jz X (.builtin "max") (fun xs H Q => ∃ i j,xs=[.int i,.int j]/\Q (.int (if j>i then j else i)) H):=by
 intro pins s σ H xs us Q I r h;obtain⟨i,j,rfl,q⟩:=h;obtain⟨u,w',rfl,⟨t,rfl⟩,⟨t',rfl⟩⟩:=vals2 r;refine max_two_ints (I.ok.hd hc) fun h' tk k=>⟨_,H,I.kept k,?_,q⟩
 by_cases hj:j>i
 ·rw[if_pos hj,if_pos hj];exact⟨_,rfl⟩
 ·rw[if_neg hj,if_neg hj];exact⟨_,rfl⟩
theorem NT(hc:X.calm=true):jz X (.builtin "min") (fun xs H Q => ∃ i j,xs=[.int i,.int j]/\Q (.int (if j<i then j else i)) H):=by
 intro pins s σ H xs us Q I r h;obtain⟨i,j,rfl,q⟩:=h;obtain⟨u,w',rfl,⟨t,rfl⟩,⟨t',rfl⟩⟩:=vals2 r;refine min_two_ints (I.ok.hd hc) fun h' tk k=>⟨_,H,I.kept k,?_,q⟩
 by_cases hj:j<i
 ·rw[if_pos hj,if_pos hj];exact⟨_,rfl⟩
 ·rw[if_neg hj,if_neg hj];exact⟨_,rfl⟩
theorem Nf:jz X (.type "int") (fun xs H Q=>(∃ i,xs=[.int i]/\Q (.int i) H) ∨ ∃ k,xs=[.bl k]/\Q (.int (if k then 1 else 0)) H):=by
 intro pins s σ H xs us Q I r h;rcases h with ⟨i,rfl,q⟩ | ⟨k,rfl,q⟩
 ·obtain⟨u,rfl,t,rfl⟩:=vals1 r;exact call_int_int ⟨.int i,H,I,⟨_,rfl⟩,q⟩
 ·obtain⟨u,rfl,r1⟩:=vals1 r
  cases r1
  exact call_int_bool ⟨.int (if k then 1 else 0),H,I.tok _,⟨_,rfl⟩,q⟩
end
structure JH(h:Heap)(x dx C:Addr)(mA:Str->Option Value):Prop where
 obj:h.get? x=some (PySem.W.instObj C dx)
 ns:h.Ns1 dx mA
 ne:dx≠x
theorem Mh{h:Heap}{dx:Addr}{mA:Str->Option Value}(n:h.Ns1 dx mA):∃ od,h.get? dx=some od/\∀ name,PySem.W.lookIn name od=some (mA name):=by
 obtain⟨o,es,ep,ho,hd,hk,_,hm⟩:=n;refine⟨o,ho,fun name=>?_⟩;have e:=hm name;unfold nsFind findBy at e;rw[<-Array.find?_toList]at e;unfold PySem.W.lookIn;rw[hd]
 dsimp only
 split
 ·rename_i y q
  rw[q]at e;exact congrArg some e
 ·rename_i q
  rw[q]at e
  have a:es.toList.any (·.refKey)=false:=by
   rw[List.any_eq_false];intro y hy;obtain⟨z,t,hkey⟩:=hk y (Array.mem_toList_iff.mp hy);simp [DictEntry.refKey,hkey]
  have a':¬ es.toList.any (·.refKey)=true:=by rw[a];exact pZ
  rw[if_neg a'];exact congrArg some e
theorem JH.look{h:Heap}{x dx C:Addr}{mA:Str->Option Value}(I:JH h x dx C mA):∃ od,PySem.W.InstAt h x (PySem.W.instObj C dx) C (some od)/\∀ name,PySem.W.lookIn name od=some (mA name):=
 let ⟨od,ho,hl⟩:=Mh I.ns
 ⟨od,⟨I.obj,rfl,rfl,ho⟩,hl⟩
section
variable{prog:Program}{w:World}{A:Around}{E:Value->Shared->Prop}{s:Shared}{K:bO}{x dx C f:Addr}{mA:Str->Option Value}{name:Str}{v:Value}
theorem get_map{expr:Bool}{Q:Value->Shared->Prop}(X:K.In s.heap)(I:JH s.heap x dx C mA)(hg:PySem.W.plainGet K C name=true)(hh:PySem.W.hasDictIn K C=true)
  (ha:PySem.W.findIn K (.ref C) name=some none) (hv:mA name=some v) (hv':PySem.W.handedIn v=true) (h:Q v { s with toks:=s.toks+1 }) :
  wpAny (model prog w) A (getAttr (.ref x) name expr) Q E s:=by
 obtain⟨od,J,hl⟩:=I.look;exact PySem.W.get_value X J (PySem.W.plainGet_of hg).1 (PySem.W.findObj_own hh ha rfl (by rw[hl,hv])) hv' h
theorem RK{pl:Sem Bool}{Q:Value×List Value->Shared->Prop}(X:K.In s.heap)(I:JH s.heap x dx C mA)(hg:PySem.W.plainGet K C name=true)
  (hf:PySem.W.findIn K (.ref C) name=some (some (.ref f))) (ht:PySem.W.isFn K (.ref f)=true) (hv:mA name=none) (h:Q (.ref f,[.ref x]) s) :
  wpAny (model prog w) A (getMethod (.ref x) name pl) Q E s:=by
 obtain⟨od,J,hl⟩:=I.look;exact PySem.W.method_fn X J (PySem.W.plainGet_of hg).1 (PySem.W.plainGet_of hg).2 hf (beq_iff_eq.mp ht) (by show (PySem.W.lookIn name od).map (·.isSome)=some false;rw[hl,hv];rfl) h
theorem Tz{ns:List Str}{Q:Unit->Shared->Prop}(X:K.In s.heap)(I:JH s.heap x dx C mA)
  (hs:PySem.W.findIn K (.ref C) "__setattr__" = some (some (.builtin "object.__setattr__"))) (hp:PySem.W.plainOver K C=true) (ht:PySem.W.takerIn K C name=some none) (hh:PySem.W.hasDictIn K C=true)
  (hw:PySem.Within mA ns) (hsz:ns.length<=sizeLine)
  (h:∀ h',JH h' x dx C (fun y=>if y=name then some v else mA y)->Heap.SameBut dx s.heap h'->Q () { s with heap:=h',toks:=s.toks+2 }) :
  wpAny (model prog w) A (setAttr (.ref x) name v) Q E s:=by
 obtain⟨od,J,hl⟩:=I.look;refine PySem.W.set_plain X J hs (PySem.W.osa_open (s:={ s with toks:=s.toks+1 }) (r:=none) X J hp ht fun b=>?_);obtain⟨cd,hc,hd'⟩:=PySem.W.any_some hh;have hx:s.heap.get? x=some ⟨.ref C,some dx,.plain,#[]⟩:=I.obj;refine wpAny_bind (wpAny_pure (wpAny_bind (wpAny_bind (wpAny_loadPart hx (wpAny_bind (PySem.W.Looks.here (s:={ s with toks:=s.toks+1 }) (PySem.W.looks_clsIn X hc) ?_))))));rw[hd'];refine wpAny_pure (a:=some dx) (wpAny_bind (wpAny_pure (wpAny_bind ?_)));refine wpAny_nsSet1 (s:={ s with toks:=s.toks+1 }) I.ns fun h' hn2 hs2=>?_;obtain⟨oD,esD,epD,hoD,hdD,hcD⟩:=hn2.count (PySem.Within.cons name v hw);refine wpAny_bind (wpAny_lookBehind hoD (by rw[hdD];exact pastItsLine_dict (Nat.le_trans hcD (by rw[dz];lia))) ?_);exact wpAny_pure (h _ ⟨(hs2.2 _ (Ne.symm I.ne)).trans I.obj,hn2,I.ne⟩ hs2)
theorem Qs{R:Result->Shared->Prop}{vs:List Value}{kw:List (Str×Value)}(X:K.In s.heap)(hm:PySem.W.makesIn K C=true)
  (hi:PySem.W.findIn K (.ref C) "__init__" = some (some (.ref f))) (hf:PySem.W.typeIn K (.ref f)=some (.type "function"))
  (h:codeAny (model prog w) (A.under (.builtin "type.__call__" ⟨.ref C::vs,kw⟩)) (.call (.ref f) ⟨.ref (s.heap.objs.size+1)::vs,kw⟩) (PySem.W.InitBack (s.heap.objs.size+1) R)
   { s with heap:=(s.heap.push PySem.W.emptyDict).push (PySem.W.instObj C s.heap.objs.size) }) :
  codeAny (model prog w) A (.call (.ref C) ⟨vs,kw⟩) R s:=by
 obtain⟨hh,g,d,t,os⟩:=s;exact PySem.W.make_core (PySem.W.makes_of X hm) (PySem.W.looks_findIn X hi) (fun self=>PySem.W.bind_fn X self hf) (.inl rfl) h
end
noncomputable def cP(f:Str)(v:V):List (Str×V)->List (Str×V)
 | []=>[(f,v)]
 | (g,x)::r=>if g=f then (g,v)::r else (g,x)::cP f v r
theorem aO(f g:Str)(v:V):∀ fs:List (Str×V),(cP f v fs).lookup g=if g=f then some v else fs.lookup g
 | []=>by
  show List.lookup g [(f,v)]=_
  by_cases h:g=f
  ·have hb:(g==f)=true:=beq_iff_eq.mpr h;simp only[List.lookup,hb,if_pos h]
  ·have hb:(g==f)=false:=beq_eq_false_iff_ne.mpr h;simp only[List.lookup,hb,if_neg h]
 | (k,x)::r=>by
  have ih:=aO f g v r;rw[show cP f v ((k,x)::r)=(if k=f then (k,v)::r else (k,x)::cP f v r) from rfl]
  by_cases hk:k=f
  ·rw[if_pos hk]
   by_cases h:g=k
   ·have hb:(g==k)=true:=beq_iff_eq.mpr h;simp only[List.lookup,hb,if_pos (h.trans hk)]
   ·have hb:(g==k)=false:=beq_eq_false_iff_ne.mpr h;simp only[List.lookup,hb,if_neg (fun e:g=f=>h (e.trans hk.symm))]
  ·rw[if_neg hk]
   by_cases h:g=k
   ·have hb:(g==k)=true:=beq_iff_eq.mpr h;simp only[List.lookup,hb,if_neg (fun e:g=f=>hk (h.symm.trans e))]
   ·have hb:(g==k)=false:=beq_eq_false_iff_ne.mpr h;simp only[List.lookup,hb];exact ih
theorem t8(f:Str)(v:V):∀ fs:List (Str×V),f∈(cP f v fs).map (·.1)/\∀ g,g∈fs.map (·.1)->g∈(cP f v fs).map (·.1)
 | []=>⟨by simp [cP],fun g h=>by simp at h⟩
 | (k,x)::r=>by
  obtain⟨i1,i2⟩:=t8 f v r;rw[show cP f v ((k,x)::r)=(if k=f then (k,v)::r else (k,x)::cP f v r) from rfl]
  by_cases hk:k=f
  ·rw[if_pos hk];subst hk;exact⟨by simp,fun g h=>by simpa using h⟩
  ·rw[if_neg hk];refine⟨?_,fun g h=>?_⟩
   ·rw[List.map_cons];exact GQ _ i1
   ·rw[List.map_cons]at h ⊢;rcases bI.mp h with e | e
    ·exact bI.mpr (.inl e)
    ·exact GQ _ (i2 g e)
theorem uC(f:Str)(v:V):∀ fs:List (Str×V),(cP f v fs).length<=fs.length+1
 | []=>by simp [cP]
 | (k,x)::r=>by
  have ih:=uC f v r;rw[show cP f v ((k,x)::r)=(if k=f then (k,v)::r else (k,x)::cP f v r) from rfl]
  by_cases hk:k=f
  ·rw[if_pos hk,dz,dz];lia
  ·rw[if_neg hk,dz,dz];lia
theorem lg.some_of{v:V}{o:Option Value}(r:lg (some v) o):∃ u,o=some u/\RelV v u:=by
 cases o with
 | none=>exact (show False from r).elim
 | some u=>exact⟨u,rfl,r⟩
theorem lg.none_of{o:Option Value}(r:lg none o):o=none:=by
 cases o with
 | none=>rfl
 | some u=>exact (show False from r).elim
theorem Mw{v:V}{u:Value}(r:RelV v u):PySem.W.handedIn u=true:=by
 cases v with
 | non=>cases (show u=Value.none from r);rfl
 | bl b=>cases (show u=Value.bool b from r);rfl
 | int i=>obtain⟨t,e⟩:=(show ∃ t,u=Value.int i t from r);cases e;rfl
 | str x=>obtain⟨t,e⟩:=(show ∃ t,u=Value.str x t from r);cases e;rfl
 | O9 b=>obtain⟨t,e⟩:=(show ∃ t,u=Value.bytes b t from r);cases e;rfl
 | flt b=>obtain⟨t,e⟩:=(show ∃ t,u=Value.float b t from r);cases e;rfl
 | ref a=>cases (show u=Value.ref a from r);rfl
 | ty n=>cases (show u=Value.type n from r);rfl
section
variable{P:Program}{w:World}{H H':Hp}{h h':Heap}{a C dx:Addr}{fs fs':List (Str×V)}
theorem uo(hok:j6 P w H h)(e:H a=some (.ins C dx fs)):∃ mA,JH h a dx C mA/\(∀ f,lg (fs.lookup f) (mA f))/\PySem.Within mA (fs.map (·.1))/\fs.length<=1000/\H dx=some (.own a):=by
 obtain⟨d,z,ne,ob,mA,n,r,q⟩:=(show bL P w H h a (.ins C dx fs) from hok a _ e);exact⟨mA,⟨ob,n,ne⟩,r,q,z,d⟩
end
structure uy(K:bO)(C:Addr):Prop where
 pg:PySem.W.plainGet K C Str.empty=true
 hd:PySem.W.hasDictIn K C=true
 po:PySem.W.plainOver K C=true
 sa:PySem.W.findIn K (.ref C) "__setattr__" = some (some (.builtin "object.__setattr__"))
theorem uy.get{K:bO}{C:Addr}(c:uy K C)(f:Str):PySem.W.plainGet K C f=true:=c.pg
noncomputable def bR(K:bO)(C:Addr)(f:Str):Prop:=PySem.W.findIn K (.ref C) f=some none
theorem bR.taker{K:bO}{C:Addr}{f:Str}(n:bR K C f):PySem.W.takerIn K C f=some none:=by
 unfold PySem.W.takerIn;rw[show PySem.W.findIn K (.ref C) f=some none from n];rfl
structure Con(K:bO)(C:Addr)(f:Str)(v:V)(u:Value):Prop where
 at_:PySem.W.findIn K (.ref C) f=some (some u)
 rel:RelV v u
 get:PySem.W.specialIn K u "__get__" = some none
 cp:PySem.W.copiedNames.contains f=false
structure Meth(K:bO)(C:Addr)(m:Str)(f:Addr):Prop where
 at_:PySem.W.findIn K (.ref C) m=some (some (.ref f))
 fn:PySem.W.isFn K (.ref f)=true
 kp:KI K f
section
variable{X:Cx}{pins:List (Addr×Obj)}{σ:St}{H:Hp}{s:Shared}{a C dx:Addr}{fs:List (Str×V)}{f:Str}{v:V}{A:Around}{E:Value->Shared->Prop}
theorem Il{b:Bool}{Q:Value->Shared->Prop}(I:Inv X pins σ H s)(e:H a=some (.ins C dx fs))(c:uy X.K C)(n:bR X.K C f)(l:fs.lookup f=some v)
  (h:∀ u s',Inv X pins σ H s'->RelV v u->Q u s'):wpAny (model X.prog X.w) A (getAttr (.ref a) f b) Q E s:=by
 obtain⟨mA,O,r,_,_,_⟩:=uo I.hok e;obtain⟨u,hu,ru⟩:=lg.some_of (v:=v) (o:=mA f) (by rw[<-l];exact r f);exact get_map I.lq O (c.get f) c.hd n hu (Mw ru) (h u _ (I.tok _) ru)
theorem wN{m:Str}{g:Addr}{pl:Sem Bool}{Q:Value×List Value->Shared->Prop}(I:Inv X pins σ H s)(e:H a=some (.ins C dx fs))(c:uy X.K C)(k:Meth X.K C m g)(l:fs.lookup m=none)
  (h:Q (.ref g,[.ref a]) s):wpAny (model X.prog X.w) A (getMethod (.ref a) m pl) Q E s:=by
 obtain⟨mA,O,r,_,_,_⟩:=uo I.hok e;have hn:mA m=none:=lg.none_of (by rw[<-l];exact r m);exact RK I.lq O (c.get m) k.at_ k.fn hn h
theorem Gy{y:V}{u:Value}{Q:Unit->Shared->Prop}(I:Inv X pins σ H s)(e:H a=some (.ins C dx fs))(c:uy X.K C)(n:bR X.K C f)(hl:fs.length<1000)(ry:RelV y u)
  (h:∀ s',Inv X pins σ (upd H a (.ins C dx (cP f y fs))) s'->Q () s'):wpAny (model X.prog X.w) A (setAttr (.ref a) f u) Q E s:=by
 obtain⟨mA,O,r,wi,_,ho⟩:=uo I.hok e
 have hz:(fs.map (·.1)).length<=sizeLine:=by rw[bZ,sizeLine_eq];lia
 refine Tz I.lq O c.sa c.po n.taker c.hd wi hz fun h' O' sb=>h _ ?_;have hd:∃ o,h'.get? dx=some o:=let ⟨o,_,_,e',_⟩:=O'.ns;⟨o,e'⟩;refine I.write (x:=a) (e:=dx) (by rw[e];exact True.intro) (.inr ho) (fun b q hb z=>(sb.2 b hb).trans z) hd ?_;refine⟨by rw[zQ O.ne];exact ho,?_,O.ne,O'.obj,_,O'.ns,fun g=>?_,fun g hg=>?_⟩
 ·have:=uC f y fs;lia
 ·show lg ((cP f y fs).lookup g) (if g=f then some u else mA g);rw[aO]
  by_cases q:g=f
  ·rw[if_pos q,if_pos q];exact ry
  ·rw[if_neg q,if_neg q];exact r g
 ·by_cases q:g=f
  ·rw[q];exact (t8 f y fs).1
  ·refine (t8 f y fs).2 g (wi g fun z=>hg ?_);show (if g=f then some u else mA g)=none;rw[if_neg q];exact z
theorem Inv.made(I:Inv X pins σ H s):Inv X pins σ (upd (upd H s.heap.objs.size (.own (s.heap.objs.size+1))) (s.heap.objs.size+1) (.ins C s.heap.objs.size []))
  { s with heap:=(s.heap.push PySem.W.emptyDict).push (PySem.W.instObj C s.heap.objs.size) }:=by
 have e1:(s.heap.push PySem.W.emptyDict).get? s.heap.objs.size=some PySem.W.emptyDict:=xJ s.heap rfl
 have e2:((s.heap.push PySem.W.emptyDict).push (PySem.W.instObj C s.heap.objs.size)).get? (s.heap.objs.size+1)=some (PySem.W.instObj C s.heap.objs.size):=by
  have:=xJ (s.heap.push PySem.W.emptyDict) (o:=PySem.W.instObj C s.heap.objs.size) rfl
  rwa [Heap.size_push]at this
 have e3:(s.heap.push PySem.W.emptyDict).Ns s.heap.objs.size (fun _=>none):=⟨PySem.W.emptyDict,#[],_,e1,rfl,(fun e he=>absurd he (by simp)),fun _=>rfl⟩;have I1:=I.laid (a:=s.heap.objs.size) (o:=.own (s.heap.objs.size+1)) (h':=s.heap.push PySem.W.emptyDict) (t':=s.toks) (fun b u q=>j5 _ q) (bM _) ⟨_,e1⟩;refine I1.laid (a:=s.heap.objs.size+1) (o:=.ins C s.heap.objs.size []) (t':=s.toks) (fun b u q=>j5 _ q) (Nat.le_of_eq (Heap.size_push _ _)) ?_;have ne:s.heap.objs.size≠s.heap.objs.size+1:=kI (Nat.lt_succ_self _);refine⟨by rw[zQ ne,zC],Nat.zero_le _,ne,e2,fun _=>none,(Heap.Ns1.of_empty e3).at fun o q=>j5 _ q,fun _=>True.intro,fun y hy=>absurd rfl hy⟩
theorem Vs{prog:Program}{w:World}{env:Env}{e:Expr}{f:Str}{pos:Pos}{s:Shared}{Q:Value->Shared->Prop}(hb:attributeBase e f env (eval e env)=eval e env)
  (h:wpAny (model prog w) A (eval e env) (fun o s₁=>wpAny (model prog w) A (getAttr o f true) Q E s₁) E s):wpAny (model prog w) A (eval (.Attribute e f pos) env) Q E s:=
 Attribute_any_ h (by rw[arm_eval_Attribute,hb])
end
noncomputable def qEC(K:bO)(ta:TE)(f:Str):TE:=fun σ H Q=>ta σ H fun x H1 => ∃ a C dx fs v,x = .ref a/\H1 a=some (.ins C dx fs)/\uy K C/\bR K C f/\fs.lookup f=some v/\Q v H1
noncomputable def qEJ(K:bO)(ta tv:TE)(f:Str):TS:=fun D σ H=>tv σ H fun y H1=>ta σ H1 fun x H2 => ∃ a C dx fs,x = .ref a/\H2 a=some (.ins C dx fs)/\uy K C/\bR K C f/\fs.length<1000 ∧
 D.nx σ (upd H2 a (.ins C dx (cP f y fs)))
section
variable{X:Cx}{o e value:Expr}{f:Str}{pos pos' tpos:Pos}{ta tv:TE}
theorem bh(he:PE X e ta)(hb:attributeBase e f X.env (eval e X.env)=eval e X.env):PE X (.Attribute e f pos) (qEC X.K ta f):=by
 intro pins s σ H Q I h;refine Vs hb (au (he pins s σ H _ I h) fun u s1 hz_=>?_);obtain⟨x,H1,I1,rx,a,C,dx,fs,v,ex,ea,c,n,l,q⟩:=hz_;subst ex;obtain rfl:u=Value.ref a:=rx;exact Il I1 ea c n l fun u' s2 I2 ru=>⟨v,H1,I2,ru,q⟩
theorem sU(ha:PE X o ta)(hv:PE X value tv)(hs:swapsWith value (some (.Attribute o f pos')) pos.line X.env=pure false):PS X (.Assign [.Attribute o f pos'] value pos) (qEJ X.K ta tv f):=by
 intro pins s σ H D I h;refine plainObj_wpAny_Assign_Attribute (au (hv pins s σ H _ I h) fun u s1 ⟨y,H1,I1,ry,q⟩=>au (ha pins s1 σ H1 _ I1 q) fun ov s2 hz_=>?_) hs;obtain⟨x,H2,I2,rx,a,C,dx,fs,ex,ea,c,n,l,q2⟩:=hz_;subst ex;obtain rfl:ov=Value.ref a:=rx;exact Gy I2 ea c n l ry fun s3 I3=>⟨σ,_,I3,q2⟩
end
section
variable{X:Cx}{pins:List (Addr×Obj)}{σ:St}{H:Hp}{s:Shared}{A:Around}{E:Value->Shared->Prop}{Q:Value->Shared->Prop}{c:Value}{b:Bool}
inductive tQ(K:bO)(H:Hp):V->Value->Prop where
 | non:tQ K H .non (.type "NoneType")
 | bl (x:Bool):tQ K H (.bl x) (.type "bool")
 | int (i:Int):tQ K H (.int i) (.type "int")
 | str (x:Str):tQ K H (.str x) (.type "str")
 | flt (x:UInt64):tQ K H (.flt x) (.type "float")
 | lst {a:Addr} {xs:List V} (e:H a=some (.lst xs)):tQ K H (.ref a) (.type "list")
 | Im {a:Addr} {o:Obj} {xs:List V} (e:H a=some (.Im o (.lst xs))):tQ K H (.ref a) (.type "list")
 | tup {a:Addr} {xs:List V} (e:H a=some (.tup xs)):tQ K H (.ref a) (.type "tuple")
 | dK {a:Addr} {kvs:List (Key×V)} (e:H a=some (.dK kvs)):tQ K H (.ref a) (.type "dict")
 | dT {a:Addr} {kvs:List (List Key×V)} (e:H a=some (.dT kvs)):tQ K H (.ref a) (.type "dict")
 | ins {a C dx:Addr} {fs:List (Str×V)} (e:H a=some (.ins C dx fs)) (cl:uy K C) (ha:PySem.W.findIn K (.ref C) "__class__" = some (some (.builtin "object.__class__")))
   (hn:PySem.W.specialIn K (.builtin "object.__class__") "__get__" = some (some (.builtin "getset_descriptor.__get__"))) (htk:PySem.W.takesIn K (.builtin "object.__class__")=some true)
   (hm:PySem.W.mroIn K C (.type "object")=some true):tQ K H (.ref a) (.ref C)
theorem Mr{x:V}{u t:Value}(I:Inv X pins σ H s)(rx:RelV x u)(ty:tQ X.K H x t)(e:PySem.W.kitOne X.K t c=some b)(h:∀ tk,Q (.bool b) { s with toks:=tk }) :
  wpAny (model X.prog X.w) A (call (.builtin "isinstance") [u,c]) Q E s:=by
 cases ty with
 | non=>cases (show u=Value.none from rx);exact PySem.W.kia_one PySem.W.kitx_none I.lq True.intro e (fun z=>nomatch z) h
 | bl y=>cases (show u=Value.bool y from rx);exact PySem.W.kia_one PySem.W.kitx_bool I.lq True.intro e (fun z=>nomatch z) h
 | int i=>obtain⟨t,q⟩:=(show ∃ t,u=Value.int i t from rx);cases q;exact PySem.W.kia_one PySem.W.kitx_int I.lq True.intro e (fun z=>nomatch z) h
 | str y=>obtain⟨t,q⟩:=(show ∃ t,u=Value.str y t from rx);cases q;exact PySem.W.kia_one PySem.W.kitx_str I.lq True.intro e (fun z=>nomatch z) h
 | flt y=>obtain⟨t,q⟩:=(show ∃ t,u=Value.float y t from rx);cases q;exact PySem.W.kia_one PySem.W.kitx_float I.lq True.intro e (fun z=>nomatch z) h
 | @lst a xs ea=>
  cases (show u=Value.ref a from rx)
  obtain⟨_,_,n,_,h1⟩:=(show bL X.prog X.w H s.heap a (.lst xs) from I.hok a _ ea);exact PySem.W.kia_one PySem.W.kitx_list I.lq ⟨_,h1,rfl⟩ e (fun z=>nomatch z) h
 | @Im a ob xs ea=>
  cases (show u=Value.ref a from rx)
  obtain⟨_,_,_,n,_,h1⟩:=(show bL X.prog X.w H s.heap a (.Im ob (.lst xs)) from I.hok a _ ea);exact PySem.W.kia_one PySem.W.kitx_list I.lq ⟨_,h1,rfl⟩ e (fun z=>nomatch z) h
 | @tup a xs ea=>
  cases (show u=Value.ref a from rx)
  obtain⟨_,_,_,p⟩:=(show bL X.prog X.w H s.heap a (.tup xs) from I.hok a _ ea);obtain⟨o,h1,h2,_⟩:=p;exact PySem.W.kia_one PySem.W.kitx_tuple I.lq ⟨o,h1,h2⟩ e (fun z=>nomatch z) h
 | @dK a kvs ea=>
  cases (show u=Value.ref a from rx)
  obtain⟨_,_,vs,_,p⟩:=(show bL X.prog X.w H s.heap a (.dK kvs) from I.hok a _ ea);obtain⟨o,es,ep,h1,h2,_⟩:=p;exact PySem.W.kia_one PySem.W.kitx_dict I.lq ⟨o,h1,h2.1⟩ e (fun z=>nomatch z) h
 | @dT a kvs ea=>
  cases (show u=Value.ref a from rx)
  obtain⟨_,_,xs,_,o,es,ep,h1,h2,_⟩:=(show bL X.prog X.w H s.heap a (.dT kvs) from I.hok a _ ea);exact PySem.W.kia_one PySem.W.kitx_dict I.lq ⟨o,h1,h2.1⟩ e (fun z=>nomatch z) h
 | @ins a C dx fs ea cl ha hn htk hm=>
  cases (show u=Value.ref a from rx)
  obtain⟨mA,O,_⟩:=uo I.hok ea;obtain⟨od,J,_⟩:=O.look;exact PySem.W.kia_one (PySem.W.kitx_own (cl.get _) cl.hd ha hn htk hm) I.lq J e (fun z=>nomatch z) h
end
structure eF(k:Nat)(A:Around):Prop where
 hd:A.handled=none
 dp:A.depth+3*k+5<recursionLimit
 un:A.units+16*k+200<cLine
theorem eF.mono{j k:Nat}{A:Around}(r:eF k A)(h:j<=k):eF j A:=⟨r.hd,by have:=r.dp;lia,by have:=r.un;lia⟩
theorem eF.deeper{k:Nat}{A:Around}(r:eF (k+1) A)(env:Env):eF k (A.deeper env):=
 ⟨r.hd,by have:=r.dp;show A.depth+1+3*k+5<_;lia,by have:=r.un;show A.units+3+16*k+200<_;lia⟩
theorem IV{A:Around}{C:Addr}{us:List Value}{kw:List (Str×Value)}:(A.under (.builtin "type.__call__" ⟨.ref C::us,kw⟩)).depth=A.depth+1:=by
 first | rfl | simp [Around.under,Code.weight,Code.isCreation,Code.isGuard,Code.isCaller,Code.frames,Code.isFrame,guardIds]
theorem IK{A:Around}{C:Addr}{us:List Value}{kw:List (Str×Value)}:(A.under (.builtin "type.__call__" ⟨.ref C::us,kw⟩)).units=A.units+1:=by
 first | rfl | simp [Around.under,Code.cUnits,Code.frames,Code.isFrame]
theorem eF.make{k:Nat}{A:Around}(r:eF (k+1) A)(C:Addr)(us:List Value)(kw:List (Str×Value)):eF k (A.under (.builtin "type.__call__" ⟨.ref C::us,kw⟩)):=
 ⟨r.hd,by have:=r.dp;rw[IV];lia,by have:=r.un;rw[IK];lia⟩
theorem eF.depth{k:Nat}{A:Around}(r:eF k A):A.depth<recursionLimit:=by have:=r.dp;lia
theorem eF.units{k:Nat}{A:Around}(r:eF k A):A.units+64<cLine:=by have:=r.un;lia
noncomputable def Oh:TA:=fun _ H Q=>Q [] H
noncomputable def qC(ta:TE)(tr:TA):TA:=fun σ H Q=>ta σ H fun x H1=>tr σ H1 fun xs H2=>Q (x::xs) H2
section
variable{X:Cx}{e:Expr}{es:List Expr}{te:TE}{t:TA}{pos:Pos}
theorem zD:PA X [] Oh:=fun _ _ _ _ H Q I h=>Calls.spliced_nil ⟨[],H,I,.nil,h⟩
theorem zA(ha:PE X e te)(hr:PA X es t)(hs:starEach (e::es) X.env=(false,eval e X.env)::starEach es X.env:=by rfl):PA X (e::es) (qC te t):=by
 intro pos pins s σ H Q I h;rw[hs];show wpAny _ _ (spliced ((false,eval e X.env)::backTo pos (starEach es X.env))) _ _ s;refine Calls.spliced_cons (au (ha pins s σ H _ I h) fun u s1 ⟨x,H1,I1,r1,q1⟩=>?_);exact au (hr pos pins s1 σ H1 _ I1 q1) fun us s2 ⟨xs,H2,I2,r2,q2⟩=>⟨x::xs,H2,I2,.cons r1 r2,q2⟩
noncomputable def Tj(t:TA):TE:=fun σ H Q=>t σ H fun xs H1=>xs.length<=sizeLine/\∀ p,H1 p=none->Q (.ref p) (upd H1 p (.tup xs))
noncomputable def qAA(t:TA):TE:=fun σ H Q=>t σ H fun xs H1=>xs.length<=sizeLine/\∀ p,H1 p=none->Q (.ref p) (upd H1 p (.lst xs))
theorem zW {x1} (h:PA X es t):PE X (.Tuple es x1 pos) (Tj t):=by
 intro pins s σ H Q I hq;refine wpAny_Tuple_spliced (au (h pos pins s σ H _ I hq) fun us s1 ⟨xs,H1,I1,r,z,q⟩=>⟨by rw[<-r.length];exact z,?_⟩);have hf:H1 s1.heap.objs.size=none:=I1.hok.fresh (bM _);refine⟨.ref s1.heap.objs.size,upd H1 s1.heap.objs.size (.tup xs),I1.laid (t':=s1.toks) (fun b u e=>j5 _ e) (bM _) ?_,rfl,q _ hf⟩;exact⟨z,us,r,⟨_,xJ _ rfl,rfl,_,rfl⟩⟩
theorem yK(h:PA X es t):PE X (.List es pos) (qAA t):=by
 intro pins s σ H Q I hq;refine wpAny_List_spliced (au (h pos pins s σ H _ I hq) fun us s1 ⟨xs,H1,I1,r,z,q⟩=>⟨by rw[<-r.length];exact z,?_⟩);have hf:H1 s1.heap.objs.size=none:=I1.hok.fresh (bM _);refine⟨.ref s1.heap.objs.size,upd H1 s1.heap.objs.size (.lst xs),I1.laid (t':=s1.toks) (fun b u e=>j5 _ e) (bM _) ?_,rfl,q _ hf⟩;exact⟨z,us,0,r,xJ _ rfl⟩
end
noncomputable abbrev Sp:=List V->Hp->VK->XK->Prop
noncomputable abbrev Ge:=List Env->Hp->Shared->XK->Value->Shared->Prop
structure JP(P:Program)(w:World)(K:bO)(mg:Str->Option Value)(base:Heap)(A:Around)(outer:List Env)(s:Shared)(H:Hp):Prop where
 frames:A.frames=some outer
 mod:Mod K mg base
 bs:∀ b o,base.get? b=some o->s.heap.get? b=some o/\H b=none
 OD:base.objs.size<=s.heap.objs.size
 qw:s.heap.FunFrames base outer
 Vh:∀ b∈frs outer,H b=none
 hok:j6 P w H s.heap
 bare:AllBare s.gens
noncomputable def CE(outer:List Env)(P:Program)(w:World)(H:Hp)(s:Shared)(Q:VK)(u:Value)(s':Shared):Prop:=
 ∃ v H',s'.os=s.os/\AllBare s'.gens/\Un (frs outer) [] H H' s.heap s'.heap/\j6 P w H' s'.heap/\RelV v u/\Q v H'
noncomputable def CR(CX:Ge)(outer:List Env)(P:Program)(w:World)(H:Hp)(s:Shared)(Q:VK)(E:XK)(r:Result)(s':Shared):Prop:=
 match r with
 | .ok (.ret u)=>CE outer P w H s Q u s'
 | .ok _=>False
 | .error e=>CX outer H s E e s'
structure aM(P:Program)(w:World)(K:bO)(mg:Str->Option Value)(base:Heap)(CX:Ge)(k:Nat)(f:Addr)(fd:FuncData)(ps:List Str)(sp:Sp):Prop where
 len:∀ vs H Q E,sp vs H Q E->vs.length=ps.length
 run:∀(A:Around)(outer:List Env)(s:Shared)(H:Hp)(args:Args)(us:List Value)(vs:List V)(Q:VK)(E:XK),eF k A->JP P w K mg base A outer s H->BindsTo s fd args (ps.zip us)->Vals vs us->sp vs H Q E →
  codeAny (model P w) A (.call (.ref f) args) (CR CX outer P w H s Q E) s
theorem aM.mono{P:Program}{w:World}{K:bO}{mg:Str->Option Value}{base:Heap}{CX:Ge}{j k:Nat}{f:Addr}{fd:FuncData}{ps:List Str}{sp:Sp}(F:aM P w K mg base CX j f fd ps sp)(h:j<=k) :
  aM P w K mg base CX k f fd ps sp:=⟨F.len,fun A outer s H args us vs Q E hr=>F.run A outer s H args us vs Q E (hr.mono h)⟩
theorem JP.make{P:Program}{w:World}{K:bO}{mg:Str->Option Value}{base:Heap}{A:Around}{outer:List Env}{s:Shared}{H:Hp}(e:JP P w K mg base A outer s H)(C:Addr)(us:List Value)(kw:List (Str×Value)) :
  JP P w K mg base (A.under (.builtin "type.__call__" ⟨.ref C::us,kw⟩)) outer s H:=⟨by first | exact e.frames | (simpa [Around.under,Code.envs,Code.isFrame,pushEnvs] using e.frames),e.mod,e.bs,e.OD,e.qw,e.Vh,e.hok,e.bare⟩
section
variable{X:Cx}{pins:List (Addr×Obj)}{σ:St}{H:Hp}{s s':Shared}
theorem Inv.env0(I:Inv X pins σ H s):JP X.prog X.w X.K X.mg X.base X.A X.stack s H:=
 ⟨I.ok.frames,I.ok.mod,I.bs,Nat.le_trans I.ok.OD I.sz,I.stack,I.qD,I.hok,I.bare⟩
theorem Inv.after{Q:VK}{u:Value}(I:Inv X pins σ H s)(h:CE X.stack X.prog X.w H s Q u s'):EP X pins σ Q u s':=by
 obtain⟨v,H',os,bare,un,hok,r,q⟩:=h;obtain⟨hh,g,d,t,os'⟩:=s';obtain rfl:os'=s.os:=os;exact⟨v,H',I.call (h':=hh) (g':=g) (d':=d) (t':=t) (ch:=[]) un hok bare (fun b z=>absurd z (by simp)),r,q⟩
end
noncomputable def W8(sp:Sp)(lu:List V)(E:XK)(t:TA):TE:=fun σ H Q=>t σ H fun vs H1=>sp (vs++lu) H1 Q E
noncomputable def W7(C:Addr)(m:Str)(sp:Sp)(lu:List V)(E:XK)(ta:TE)(t:TA):TE:=fun σ H Q=>ta σ H fun x H1 => ∃ a dx fs,x = .ref a/\H1 a=some (.ins C dx fs)/\fs.lookup m=none ∧
 t σ H1 fun vs H2=>sp (x::(vs++lu)) H2 Q E
noncomputable def qA9(C:Addr)(sp:Sp)(lu:List V)(E:XK)(t:TA):TE:=fun σ H Q=>t σ H fun vs H1 => ∀ x dx,H1 x=none->H1 dx=none->dx≠x →
 sp (.ref x::(vs++lu)) (upd (upd H1 dx (.own x)) x (.ins C dx [])) (fun v H2=>v = .non/\Q (.ref x) H2) E
noncomputable def Binds(K:bO)(fd:FuncData)(ps:List Str)(ds:List Value):Prop:=
 ∀(s:Shared)(us:List Value),K.In s.heap->(us++ds).length=ps.length->BindsTo s fd ⟨us,[]⟩ (ps.zip (us++ds))
theorem Binds.all{K:bO}{fd:FuncData}{ps:List Str}(h:∀ us:List Value,us.length=ps.length->bindArgs fd ⟨us,[]⟩=pure (ps.zip us)):Binds K fd ps []:=fun s us _ hl=>by
 rw[gQ]at hl ⊢;exact .of_eq (h us hl)
noncomputable def Passes(CX:Ge)(X:Cx)(E:XK):Prop:=∀(pins:List (Addr×Obj))(σ:St)(H:Hp)(s:Shared)(e:Value)(s':Shared),Inv X pins σ H s->CX X.stack H s E e s'->X.xe e s'
section
variable{X:Cx}{CX:Ge}{k:Nat}{f C:Addr}{fd:FuncData}{ps:List Str}{sp:Sp}{lu:List V}{ds:List Value}{E:XK}{x m:Str}{p pos apos:Pos}{e o:Expr}{es:List Expr}{ta:TE}{t:TA}
theorem HD{pins:List (Addr×Obj)}{σ:St}{H:Hp}{s:Shared}{Q:VK}{us:List Value}{vs:List V}(F:aM X.prog X.w X.K X.mg X.base CX k f fd ps sp)(hr:eF k X.A)(hb:Binds X.K fd ps ds)(hd:Vals lu ds)(hx:Passes CX X E)
  (I:Inv X pins σ H s) (r:Vals vs us) (h:sp (vs++lu) H Q E):wpAny (model X.prog X.w) X.A (call (.ref f) us) (EP X pins σ Q) X.xe s:=by
 have r2:Vals (vs++lu) (us++ds):=r.append hd
 have hl:(us++ds).length=ps.length:=by rw[<-r2.length];exact F.len _ _ _ _ h
 refine wpAny_call (codeAny_mono (F.run X.A X.stack s H ⟨us,[]⟩ (us++ds) (vs++lu) Q E hr I.env0 (hb s us I.lq hl) r2 h) fun r s' hq=>?_)
 cases r with
 | error e=>exact hx pins σ H s e s' I hq
 | ok fl=>
  cases fl with
  | ret u=>exact I.after hq
  | next=>exact False.elim hq
  | brk=>exact False.elim hq
  | cont=>exact False.elim hq
theorem zJ(F:aM X.prog X.w X.K X.mg X.base CX k f fd ps sp)(hr:eF k X.A)(hg:Gl X x)(hm:X.mg x=some (.ref f))(hk:PySem.W.keepIn X.K (.ref f)=true)(hb:Binds X.K fd ps ds)(hd:Vals lu ds)(hx:Passes CX X E)
  (ha:PA X (e::es) t) (hdb:(x==("__debug__" : Str))=false:=by decide) (he:starEach (e::es) X.env=(false,eval e X.env)::starEach es X.env:=by rfl) (hpl:(backTo pos (starEach es X.env)).any (·.1)=false:=by rfl) :
  PE X (.Call (.Name x p) (e::es) [] pos) (W8 sp lu E t):=by
 intro pins s σ H Q I h;refine wpAny_Call_Name_kw (oG I hg hm ?_ hdb);refine PySem.W.callWith_K (h₀:=X.base) I.ok.mod.YQ hk (au (ha pos pins s σ H _ I h) fun us s1 ⟨vs,H1,I1,r,q⟩=>⟨I1.lq,?_⟩) he hpl;exact HD F hr hb hd hx I1 r q
theorem qd{pl:Sem Bool}(he:PE X o ta)(c:uy X.K C)(hm:Meth X.K C m f)(F:aM X.prog X.w X.K X.mg X.base CX k f fd ps sp)(hr:eF k X.A)(hb:Binds X.K fd ps ds)(hd:Vals lu ds)(hx:Passes CX X E)(ha:PA X (e::es) t)
  (hst:starEach (e::es) X.env=(false,eval e X.env)::starEach es X.env:=by rfl) (hpl:(backTo pos (starEach es X.env)).any (·.1)=false:=by rfl)
  (ht:eval (.Call (.Attribute o m apos) (e::es) [] pos) X.env=(do
   let ov ← eval o X.env
   standAt apos.atName
   let (f,first) ← holding [ov] (getMethod ov m pl)
   callWith pos f first (backTo pos (starEach (e::es) X.env)) (backToKw pos (keywordEach [] X.env))):=by rfl) :
  PE X (.Call (.Attribute o m apos) (e::es) [] pos) (W7 C m sp lu E ta t):=by
 intro pins s σ H Q I h;refine PySem.W.methodCall_KW (pl:=pl) (au (he pins s σ H _ I h) fun u s1 hz_=>?_) ht;obtain⟨x,H1,I1,rx,a,dx,fs,ex,ea,l,q⟩:=hz_;subst ex;obtain rfl:u=Value.ref a:=rx;refine wN I1 ea c hm l ?_;refine PySem.W.callWith_K (first:=[.ref a]) (h₀:=X.base) I.ok.mod.YQ hm.kp (au (ha pos pins s1 σ H1 _ I1 q) fun us s2 ⟨vs,H2,I2,r,q2⟩=>⟨I2.lq,?_⟩) hst hpl;exact HD (us:=.ref a::us) (vs:=.ref a::vs) F hr hb hd hx I2 (.cons rfl r) q2
theorem vm{pl:Sem Bool}(he:PE X o ta)(c:uy X.K C)(hm:Meth X.K C m f)(F:aM X.prog X.w X.K X.mg X.base CX k f fd ps sp)(hr:eF k X.A)(hb:Binds X.K fd ps ds)(hd:Vals lu ds)(hx:Passes CX X E)
  (ht:eval (.Call (.Attribute o m apos) [] [] pos) X.env=(do
   let ov ← eval o X.env
   standAt apos.atName
   let (f,first) ← holding [ov] (getMethod ov m pl)
   callWith pos f first (backTo pos (starEach [] X.env)) (backToKw pos (keywordEach [] X.env))):=by rfl) :
  PE X (.Call (.Attribute o m apos) [] [] pos) (W7 C m sp lu E ta Oh):=by
 intro pins s σ H Q I h;refine PySem.W.methodCall_KW (pl:=pl) (au (he pins s σ H _ I h) fun u s1 hz_=>?_) ht;obtain⟨x,H1,I1,rx,a,dx,fs,ex,ea,l,q⟩:=hz_;subst ex;obtain rfl:u=Value.ref a:=rx;refine wN I1 ea c hm l ?_;exact PySem.W.callWith_K0 (first:=[.ref a]) I1.lq hm.kp (HD (us:=[.ref a]) (vs:=[.ref a]) F hr hb hd hx I1 (.cons rfl .nil) q)
structure Mk(K:bO)(C f:Addr):Prop where
 makes:PySem.W.makesIn K C=true
 init:PySem.W.findIn K (.ref C) "__init__" = some (some (.ref f))
 fn:PySem.W.isFn K (.ref f)=true
 kp:KI K C
theorem Pr{pins:List (Addr×Obj)}{σ:St}{H:Hp}{s:Shared}{Q:VK}{us:List Value}{vs:List V}(M:Mk X.K C f)(F:aM X.prog X.w X.K X.mg X.base CX k f fd ps sp)(hr:eF (k+1) X.A)(hb:Binds X.K fd ps ds)(hd:Vals lu ds)
  (hx:Passes CX X E) (I:Inv X pins σ H s) (r:Vals vs us)
  (h:∀ x dx,H x=none->H dx=none->dx≠x->sp (.ref x::(vs++lu)) (upd (upd H dx (.own x)) x (.ins C dx [])) (fun v H2=>v = .non/\Q (.ref x) H2) E) :
  wpAny (model X.prog X.w) X.A (call (.ref C) us) (EP X pins σ Q) X.xe s:=by
 have hq:=h (s.heap.objs.size+1) s.heap.objs.size (I.hok.fresh (Nat.le_succ _)) (I.hok.fresh (bM _)) (kI (Nat.lt_succ_self _));have I2:=Inv.made (C:=C) I;have r2:Vals (V.ref (s.heap.objs.size+1)::(vs++lu)) (Value.ref (s.heap.objs.size+1)::(us++ds)):=.cons rfl (r.append hd)
 have hl:(Value.ref (s.heap.objs.size+1)::us++ds).length=ps.length:=by
  have e:=r2.length;rw[F.len _ _ _ _ hq]at e;exact e.symm
 refine wpAny_call (Qs (f:=f) I.lq M.makes M.init (beq_iff_eq.mp M.fn) (codeAny_mono (F.run _ X.stack _ _ ⟨Value.ref (s.heap.objs.size+1)::us,[]⟩ (Value.ref (s.heap.objs.size+1)::(us++ds)) _ _ E (hr.make C us [])
  (I2.env0.make C us []) (hb _ (Value.ref (s.heap.objs.size+1)::us) I2.lq hl) r2 hq) fun r s' hq'=>?_))
 cases r with
 | error e=>exact hx pins σ _ _ e s' I2 hq'
 | ok fl=>
  cases fl with
  | ret u=>
   obtain⟨v,H',I3,rv,ev,q3⟩:=I2.after hq';subst ev;exact⟨rv,⟨V.ref (s.heap.objs.size+1),H',I3,rfl,q3⟩⟩
  | next=>exact False.elim hq'
  | brk=>exact False.elim hq'
  | cont=>exact False.elim hq'
theorem ug(M:Mk X.K C f)(F:aM X.prog X.w X.K X.mg X.base CX k f fd ps sp)(hr:eF (k+1) X.A)(hg:Gl X x)(hm:X.mg x=some (.ref C))(hb:Binds X.K fd ps ds)(hd:Vals lu ds)(hx:Passes CX X E)
  (ha:PA X (e::es) t) (hdb:(x==("__debug__" : Str))=false:=by decide) (he:starEach (e::es) X.env=(false,eval e X.env)::starEach es X.env:=by rfl) (hpl:(backTo pos (starEach es X.env)).any (·.1)=false:=by rfl) :
  PE X (.Call (.Name x p) (e::es) [] pos) (qA9 C sp lu E t):=by
 intro pins s σ H Q I h;refine wpAny_Call_Name_kw (oG I hg hm ?_ hdb);refine PySem.W.callWith_K (h₀:=X.base) I.ok.mod.YQ M.kp (au (ha pos pins s σ H _ I h) fun us s1 ⟨vs,H1,I1,r,q⟩=>⟨I1.lq,?_⟩) he hpl;exact Pr M F hr hb hd hx I1 r q
end
section
variable{X:Cx}{CX:Ge}{k:Nat}{f C:Addr}{fd:FuncData}{ps ks:List Str}{sp:Sp}{E:XK}{x m:Str}{p pos apos kpos:Pos}{e o:Expr}{es:List Expr}{kws:List Keyword}{te ta:TE}{t tk:TA}{nm:Option Str}
structure KBinds(K:bO)(fd:FuncData)(ps ks:List Str)(g:List Value->List Value->List Value)(gV:List V->List V->List V):Prop where
 to:∀(s:Shared)(us ws:List Value),K.In s.heap->(g us ws).length=ps.length->BindsTo s fd ⟨us,ks.zip ws⟩ (ps.zip (g us ws))
 rel:∀ {vs:List V} {us:List Value} {zs:List V} {ws:List Value},Vals vs us->Vals zs ws->Vals (gV vs zs) (g us ws)
variable{g:List Value->List Value->List Value}{gV:List V->List V->List V}
end
structure aH(N P:List Str)(sc:Scope):Prop where
 kind:sc.kind = .function
 co:sc.isCoroutine=false
 gen:sc.isGenerator=false
 nd:N.Nodup
 pre:N.take P.length=P
 par:∀ x∈P,sc.names.lookup x=some .local∨sc.names.lookup x=some .cell
 Hv:∀ y∈sc.names,y.2≠.free
theorem zm{kindOf:Str->Option NameKind}{x:Str}:∀ {binds:List (Str×Value)} {m:Str->Option Value},(∀ v,(x,v)∉binds)->bindL kindOf binds m x=m x
 | [],_,_=>rfl
 | (n,v)::r,m,h=>by
  unfold bindL;rw[zm fun w hw=>h w (GQ _ hw)]
  split
  ·have:x≠n:=by rintro rfl;exact h v Cu
   simp [this]
  ·rfl
theorem zq{kindOf:Str->Option NameKind}{x:Str}:∀ {binds:List (Str×Value)} {m:Str->Option Value},(∀ v,(x,v)∉binds)->bindC kindOf binds m x=m x
 | [],_,_=>rfl
 | (n,v)::r,m,h=>by
  unfold bindC;rw[zq fun w hw=>h w (GQ _ hw)]
  split
  ·rfl
  ·have:x≠n:=by rintro rfl;exact h v Cu
   simp [this]
theorem zp{kindOf:Str->Option NameKind}{x:Str}{v:Value}:∀ {P:List Str} {vs:List Value} {i:Nat} {m:Str->Option Value},P.Nodup->P[i]? = some x->vs[i]? = some v->kindOf x=some .local →
  bindL kindOf (P.zip vs) m x=some v
 | [],_,_,_,_,h,_,_=>by simp at h
 | _::_,[],_,_,_,_,h,_=>by simp at h
 | p::P,w::vs,0,m,nd,h1,h2,hk=>by
  simp at h1 h2;subst h1;subst h2;show bindL kindOf ((p,w)::P.zip vs) m p=_;unfold bindL;rw[zm fun v hv=>(List.nodup_cons.mp nd).1 (List.of_mem_zip hv).1,if_pos hk];simp
 | p::P,w::vs,i+1,m,nd,h1,h2,hk=>by
  show bindL kindOf ((p,w)::P.zip vs) m x=_;unfold bindL;exact zp (i:=i) (List.nodup_cons.mp nd).2 (by simpa using h1) (by simpa using h2) hk
theorem zr{kindOf:Str->Option NameKind}{x:Str}{v:Value}:∀ {P:List Str} {vs:List Value} {i:Nat} {m:Str->Option Value},P.Nodup->P[i]? = some x->vs[i]? = some v->kindOf x≠some .local →
  bindC kindOf (P.zip vs) m x=some v
 | [],_,_,_,_,h,_,_=>by simp at h
 | _::_,[],_,_,_,_,h,_=>by simp at h
 | p::P,w::vs,0,m,nd,h1,h2,hk=>by
  simp at h1 h2;subst h1;subst h2;show bindC kindOf ((p,w)::P.zip vs) m p=_;unfold bindC;rw[zq fun v hv=>(List.nodup_cons.mp nd).1 (List.of_mem_zip hv).1,if_neg hk];simp
 | p::P,w::vs,i+1,m,nd,h1,h2,hk=>by
  show bindC kindOf ((p,w)::P.zip vs) m x=_;unfold bindC;exact zr (i:=i) (List.nodup_cons.mp nd).2 (by simpa using h1) (by simpa using h2) hk
noncomputable def start(N:List Str)(vs:List V):St:=vs.map some++List.replicate (N.length-vs.length) none
noncomputable def oU(CX:Ge)(P:Program)(w:World)(K:bO)(mg:Str->Option Value)(base:Heap)(N:List Str)(qual:Str)(scope:Scope)(f:Addr)(cd:Value)(A:Around)(outer:List Env)(s:Shared)(H:Hp)(E:XK):Cx where
 prog:=P
 w:=w
 K:=K
 mg:=mg
 base:=base
 A:=A.deeper (envOfC qual scope s.heap.objs.size f cd)
 N:=N
 s₀:=s
 H₀:=H
 env:=envOfC qual scope s.heap.objs.size f cd
 outer:=outer
 stack:=envOfC qual scope s.heap.objs.size f cd::outer
 ex:=[]
 calm:=true
 fn:=fun _=>true
 pn:=[]
 xe:=fun e s'=>wpAny (model P w) (A.deeper (envOfC qual scope s.heap.objs.size f cd)) (leaving (envOfC qual scope s.heap.objs.size f cd) e) (fun _ s''=>CX outer H s E e s'') (fun e' s''=>CX outer H s E e' s'') s'
theorem Fl{sc:Scope}{n:Nat}{x:Str}(h:sc.names.lookup x=some .cell):∃ c,(cellsFrom n sc.names []).lookup x=some c:=by
 have q:=PySem.W.cellsFrom_some sc.names n [] (.inl h);exact Option.isSome_iff_exists.mp q
theorem Ms{CX:Ge}{P:Program}{w:World}{K:bO}{mg:Str->Option Value}{base:Heap}{N ps:List Str}{qual:Str}{scope:Scope}{f:Addr}{cd:Value}{A:Around}{outer:List Env}{s s1:Shared}{H:Hp}{E:XK}{us:List Value}{vs:List V}
  (S:aH N ps scope) (hd:A.handled=none) (e0:JP P w K mg base A outer s H) (hl:vs.length=ps.length) (r:Vals vs us)
  (x:InCallC s s.heap.objs.size (bindL (envOfC qual scope s.heap.objs.size f cd).kindOf (ps.zip us) fun _=>none) (cellsFrom (s.heap.objs.size+1) scope.names []) (bindC (envOfC qual scope s.heap.objs.size f cd).kindOf (ps.zip us) fun _=>none) s1) :
  Inv (oU CX P w K mg base N qual scope f cd A outer s H E) [] (start N vs) H s1:=by
 have hpl:ps.length<=N.length:=by have:=congrArg List.length S.pre;rw[jP]at this;lia
 obtain⟨h1,tk,rfl,hk⟩:=x.done;have noA:∀ b:Addr,b∉(oU CX P w K mg base N qual scope f cd A outer s H E).ex:=fun b z=>absurd (show b∈([]:List Addr) from z) (by simp)
 refine⟨⟨e0.mod,S.kind,rfl,rfl,bM _,fun y z c h1 h2=>?_,fun y hy=>?_,fun y c _ h=>?_,fun _=>hd,Around.frames_deeper e0.frames,.inr ⟨rfl,rfl⟩,fun b z=>absurd z (noA b),e0.bs,e0.OD,fun b _ _=>noA b,fun b z=>absurd z (noA b),e0.qw,e0.Vh⟩,
  rfl,e0.bare,Un.kept hk,⟨_,x.toInCall.ns,fun i y v h1 h2 h3=>?_⟩,fun y c h=>⟨_,x.cell y c h⟩,e0.hok.fresh (Nat.le_refl _),fun y c h=>?_,fun p hp=>absurd (show p∈([]:List (Addr×Obj)) from hp) (by simp),e0.hok.kept hk,?_⟩
 ·exact name_of_addr x.apart (PySem.mem_of_lookup h1) (PySem.mem_of_lookup h2)
 ·have hy:scope.names.lookup y=some .cell∨scope.names.lookup y=some .free:=hy;rcases hy with hy | hy
  ·exact Fl hy
  ·exact absurd rfl (S.Hv _ (PySem.mem_of_lookup hy))
 ·exact Nat.le_of_lt (x.above y c (PySem.mem_of_lookup h))
 ·have hi:i<vs.length:=by
   unfold start at h2
   by_cases hi:i<vs.length
   ·exact hi
   ·rw[List.getElem?_append_right (by simpa using hi)]at h2;rw[List.getElem?_replicate]at h2
    split at h2 <;> cases h2
  have ha:vs[i]? = some v:=by
   unfold start at h2;rw[List.getElem?_append_left (by simpa using hi),List.getElem?_map]at h2
   cases e:vs[i]? with
   | none=>rw[e]at h2;cases h2
   | some a=>rw[e]at h2;cases h2;rfl
  obtain⟨u,hu,rv⟩:=r.get ha
  have hp:ps[i]? = some y:=by
   rw[<-S.pre,List.getElem?_take_of_lt (by lia)];exact h1
  have ndP:ps.Nodup:=by rw[<-S.pre];exact S.nd.sublist (List.take_sublist _ _)
  refine⟨u,rv,?_⟩;rcases S.par y (Gf hp) with k | k
  ·exact .inl ⟨k,zp ndP hp hu k⟩
  ·obtain⟨c,e⟩:=Fl (n:=s.heap.objs.size+1) k;refine .inr ⟨.inl k,c,e,?_⟩;have q:=x.cell y c e;rw[zr ndP hp hu (by show scope.names.lookup y≠_;rw[k];decide)]at q;exact q
 ·exact e0.hok.fresh (Nat.le_of_lt (x.above y c (PySem.mem_of_lookup h)))
 ·unfold start;show _=N.length;rw[dW,bZ,List.length_replicate];lia
theorem Wg{CX:Ge}{P:Program}{w:World}{K:bO}{mg:Str->Option Value}{base:Heap}{k:Nat}{f:Addr}{name qual:Str}{params:Arguments}{body:List Stmt}{scope:Scope}{dV kV doc pm cdv ct oc:Value}{an od:Option Addr}
  {osl:Array (Option Value)} {N ps:List Str} {sp:Sp} (lk:K.lookup f=some ⟨oc,od,.func (PySem.W.fnOf name qual params body scope dV kV doc pm an cdv ct),osl⟩) (hcd:PySem.W.codeIn K cdv qual=true) (S:aH N ps scope)
  (len:∀ vs H Q E,sp vs H Q E->vs.length=ps.length)
  (hbody:∀(A:Around)(outer:List Env)(s:Shared)(H:Hp)(vs:List V)(Q:VK)(E:XK),eF k (A.deeper (envOfC qual scope s.heap.objs.size f cdv))->sp vs H Q E →
   ∃ t,Ac (oU CX P w K mg base N qual scope f cdv A outer s H E) body t/\t { nx:=fun _ H'=>Q .non H',rt:=Q } (start N vs) H) :
  aM P w K mg base CX (k+1) f (PySem.W.fnOf name qual params body scope dV kV doc pm an cdv ct) ps sp:=by
 refine⟨len,fun A outer s H args us vs Q E hr e0 hb r hsp=>?_⟩;have hl:=len _ _ _ _ hsp;have KX:K.In s.heap:=e0.mod.YQ.keeps fun b o e=>(e0.bs b o e).1;have lim:s.heap.NoLimit:=e0.mod.nolimit.keeps fun b o e=>(e0.bs b o e).1
 have hkind:∀ y∈ps.zip us,scope.names.lookup y.1=some .local∨(scope.names.lookup y.1=some .cell/\((cellsFrom (s.heap.objs.size+1) scope.names []).lookup y.1).isSome=true):=fun ⟨n,v⟩ hy=>by
  rcases S.par n (List.of_mem_zip hy).1 with q | q
  ·exact .inl q
  ·exact .inr ⟨q,PySem.W.cellsFrom_some _ _ _ (.inl q)⟩
 refine codeAny_call_function hr.depth (KX _ _ lk) rfl S.co S.gen rfl (PySem.W.codeRec_of KX hcd) (hb _ _ _ _ ?_);refine wpAny_newFunctionEnv_cells S.kind hkind fun env he s1 x=>?_;subst he;refine⟨lim.keeps x.toInCall.keep,codeAny_func ?_⟩;obtain⟨t,ht,hq⟩:=hbody A outer s H vs Q E (hr.deeper _) hsp;have I:Inv (oU CX P w K mg base N qual scope f cdv A outer s H E) [] (start N vs) H s1:=Ms S hr.hd e0 hl r x;refine wpAny_mono (ht [] s1 (start N vs) H _ I hq) (fun fl s' hs=>?_) fun e s' hs=>hs
 have fin:∀ {σ':St} {H':Hp} {v:V} {u:Value},Inv (oU CX P w K mg base N qual scope f cdv A outer s H E) [] σ' H' s'->RelV v u->Q v H'->CE outer P w H s Q u s':=
  fun {σ' H' v u} J rv q=>⟨v,H',J.os,J.bare,J.base,J.hok,rv,q⟩
 cases fl with
 | ret u=>
  obtain⟨v,σ',H',J,rv,q⟩:=hs;exact fin J rv q
 | next=>
  obtain⟨σ',H',J,q⟩:=hs;exact fin (v:=V.non) (u:=Value.none) J rfl q
 | brk=>
  obtain⟨_,_,_,q⟩:=hs;exact False.elim q
 | cont=>
  obtain⟨_,_,_,q⟩:=hs;exact False.elim q
section
variable{X:Cx}{x:Str}{p pos:Pos}{e:Expr}{es:List Expr}{t:TA}{id T:String}{r:List V->Hp->VK->Prop}
noncomputable def tCB(r:List V->Hp->VK->Prop)(t:TA):TE:=fun σ H Q=>t σ H fun vs H1=>r vs H1 Q
theorem zS(hc:jz X (.builtin id) r)(hg:Gl X x)(hm:X.mg x=none)(hv:bootBuiltins x=some (.builtin id))(ha:PA X (e::es) t)(hn:x ≠ "__name__" := by decide)(hdb:(x==("__debug__" : Str))=false:=by decide)
  (he:starEach (e::es) X.env=(false,eval e X.env)::starEach es X.env:=by rfl) (hpl:(backTo pos (starEach es X.env)).any (·.1)=false:=by rfl):PE X (.Call (.Name x p) (e::es) [] pos) (tCB r t):=by
 intro pins s σ H Q I h;refine wpAny_Call_Name_kw (mY I hg hm hv ?_ hn hdb);exact PyProof.Rows.callWith_builtin1 (au (ha pos pins s σ H _ I h) fun us s1 ⟨vs,H1,I1,r1,q1⟩=>hc pins s1 σ H1 vs us Q I1 r1 q1) he hpl
theorem yA(hc:jz X (.type T) r)(hg:Gl X x)(hm:X.mg x=none)(hv:bootBuiltins x=some (.type T))(ha:PA X (e::es) t)(hn:x ≠ "__name__" := by decide)(hdb:(x==("__debug__" : Str))=false:=by decide)
  (he:starEach (e::es) X.env=(false,eval e X.env)::starEach es X.env:=by rfl) (hpl:(backTo pos (starEach es X.env)).any (·.1)=false:=by rfl):PE X (.Call (.Name x p) (e::es) [] pos) (tCB r t):=by
 intro pins s σ H Q I h;refine wpAny_Call_Name_kw (mY I hg hm hv ?_ hn hdb);exact PyProof.Rows.callWith_type1 (au (ha pos pins s σ H _ I h) fun us s1 ⟨vs,H1,I1,r1,q1⟩=>hc pins s1 σ H1 vs us Q I1 r1 q1) he hpl
end
end L2
namespace HT
open PySem PyProof.Rows
section
open PySem.SeqAt
open PySem.AutoSeq1 (wpAny_loadPart')
open PySem.MeetsSeq PySem.MeetsSeq2 PySem.MeetsSeq3
end
section
variable{prog:Program}{w:World}{A:Around}{E:Value->Shared->Prop}{s:Shared}
theorem Vq{t b:Addr}{vs ws:List Value}{Q:Value->Shared->Prop}(ht:IsTup s.heap t vs.toArray)(hb:IsTup s.heap b ws.toArray)(hv:vs≠[])
  (h1:ws=[]->Q (.ref t) s) (h2:ws≠[]->Q (.ref s.heap.objs.size) { s with heap:=s.heap.push { cls:=.type "tuple",data:=.seq (vs++ws).toArray } })
  (hsz:vs.length+ws.length<=sizeLine):wpAny (model prog w) A (binaryOp .Add (.ref t) (.ref b)) Q E s:=by
 obtain⟨⟨cls,dd,data,sl⟩,ho,hc,n,hd⟩:=id ht;obtain⟨⟨cls2,dd2,data2,sl2⟩,ho2,hc2,n2,hd2⟩:=id hb;simp only at hc hd hc2 hd2;subst hc hd hc2 hd2
 have e:vs.toArray++ws.toArray=(vs++ws).toArray:=by simp
 by_cases hw:ws=[]
 ·exact concat_meets ⟨_,ho,rfl⟩ ⟨_,ho2,rfl⟩ noFill_tuple_add seq_tuple_add PySem.F.slot_tuple_add PySem.F.entry_tuple_add (PySem.F.args_tuple_add_2 _ _)
   (tuple_addW1 t b vs.toArray ws.toArray n n2 dd dd2 sl sl2 (by simpa using hv) (by simp [hw])) ⟨ho,ho2,h1 hw⟩
 ·refine concat_meets ⟨_,ho,rfl⟩ ⟨_,ho2,rfl⟩ noFill_tuple_add seq_tuple_add PySem.F.slot_tuple_add PySem.F.entry_tuple_add (PySem.F.args_tuple_add_2 _ _)
   (tuple_addW2 t b vs.toArray ws.toArray n n2 dd dd2 sl sl2 (by simpa using hv) (by simpa using hw) (by rw[List.size_toArray,List.size_toArray];exact hsz)) ⟨ho,ho2,?_⟩
  rw[e];exact h2 hw
noncomputable def fu(n d:Nat):Option Int->Nat
 | none=>d
 | some v=>if v<0 then (v+(n:Int)).toNat else min v.toNat n
theorem Dh(n d:Nat):fu n d none=d:=rfl
theorem ue(n d k:Nat):fu n d (some (k:Int))=min k n:=by
 show (if (k:Int)<0 then ((k:Int)+(n:Int)).toNat else min (k:Int).toNat n)=min k n;rw[if_neg (by lia),Tg]
theorem XJ(n d:Nat)(hd:d<=n)(o:Option Int):fu n d o<=n:=by
 cases o with
 | none=>exact hd
 | some v=>
  show (if v<0 then (v+(n:Int)).toNat else min v.toNat n)<=n
  by_cases hv:v<0
  ·rw[if_pos hv];lia
  ·rw[if_neg hv];exact Nat.min_le_right _ _
theorem La(v:Int)(n d:Nat):(if v<0 then max (v+(n:Int)) 0 else min v (n:Int))=((fu n d (some v):Nat):Int):=by
 show (if v<0 then max (v+(n:Int)) 0 else min v (n:Int))=(((if v<0 then (v+(n:Int)).toNat else min v.toNat n):Nat):Int)
 by_cases hv:v<0
 ·simp only[if_pos hv];lia
 ·simp only[if_neg hv];lia
theorem JC(lo hi:Option Int)(n:Nat):Builtin.Slice.sliceAdjust lo hi 1 (n:Int)=(((fu n 0 lo:Nat):Int),((fu n n hi:Nat):Int)):=by
 have h1:¬ ((1:Int)<0):=by lia
 unfold Builtin.Slice.sliceAdjust;simp only[h1,if_false];refine Prod.ext ?_ ?_
 ·cases lo with
  | none=>rfl
  | some v=>exact La v n 0
 ·cases hi with
  | none=>rfl
  | some v=>exact La v n n
theorem HQ(i j:Nat):Builtin.Slice.slicePlaces (i:Int) (j:Int) 1=j-i:=by
 unfold Builtin.Slice.slicePlaces
 have h1:(1:Int)>0:=by lia
 simp only[h1,if_true,Int.ediv_one]
 split <;> lia
theorem vJ{v:Value}{o:Option Int}{Q:Option Int->Shared->Prop}(p:IsPart v o)(h:Q o s):wpAny (model prog w) A (Builtin.Slice.slicePartIndex v) Q E s:=by
 cases p with
 | none=>exact slicePart_none h
 | int i t=>exact slicePart_int h
theorem sG{sl:Addr}{vl vu:Value}{lo hi:Option Int}{n:Nat}{Q:Int×Int×Nat->Shared->Prop}(hs:s.heap.IsSliceOf sl vl vu .none)(pl:IsPart vl lo)(pu:IsPart vu hi)
  (h:Q (((fu n 0 lo:Nat):Int),1,fu n n hi-fu n 0 lo) s):wpAny (model prog w) A (Builtin.Slice.sliceApplied (.ref sl) (pure (n:Int))) Q E s:=by
 obtain⟨os,hos,hcs,hds⟩:=id hs;unfold Builtin.Slice.sliceApplied Builtin.Slice.sliceFields;refine wpAny_bind (wpAny_bind (wpAny_field hos hds (x:=vl) rfl (wpAny_bind (wpAny_field hos hds (x:=vu) rfl (wpAny_bind (wpAny_field hos hds (x:=.none) rfl (wpAny_pure ?_)))))));refine wpAny_bind (slicePart_none ?_);show wpAny _ _ (if ((1:Int)==0)=true then _ else _) _ _ s;rw[if_neg (by decide)];refine wpAny_bind (vJ pl (wpAny_bind (vJ pu (wpAny_bind (wpAny_pure ?_)))));show wpAny _ _ (match Builtin.Slice.sliceAdjust lo hi 1 (n:Int) with | (lo,hi)=>pure (lo,(1:Int),Builtin.Slice.slicePlaces lo hi 1)) _ _ s;rw[JC lo hi n];show wpAny _ _ (pure (((fu n 0 lo:Nat):Int),(1:Int),Builtin.Slice.slicePlaces ((fu n 0 lo:Nat):Int) ((fu n n hi:Nat):Int) 1)) _ _ s;rw[HQ];exact wpAny_pure h
theorem QB(xs:Array Value)(i k:Nat):((List.range k).filterMap fun (m:Nat)=>xs[((i:Int)+(m:Int)*1).toNat]?).toArray=((xs.toList.drop i).take k).toArray:=by
 have e:(fun (m:Nat)=>xs[((i:Int)+(m:Int)*1).toNat]?)=fun m=>xs[i+m]?:=by
  funext m
  have:((i:Int)+(m:Int)*1).toNat=i+m:=by lia
  rw[this]
 rw[e];have:=pick_run xs i k;rw[List.filterMap_map]at this;have e2:((fun x=>xs[x]?) ∘ fun x=>i+x)=fun m=>xs[i+m]?:=rfl;rw[e2]at this;rw[this]
theorem qu{t sl:Addr}{items:Array Value}{vl vu:Value}{lo hi:Option Int}{Q:Value->Shared->Prop}(ht:IsTup s.heap t items)(hs:s.heap.IsSliceOf sl vl vu .none)(pl:IsPart vl lo)(pu:IsPart vu hi)
  (hw:¬ (fu items.size 0 lo=0/\fu items.size items.size hi=items.size))
  (h:Q (.ref s.heap.objs.size) { s with heap:=s.heap.push { cls:=.type "tuple",data:=.seq ((items.toList.drop (fu items.size 0 lo)).take (fu items.size items.size hi-fu items.size 0 lo)).toArray } })
  (hsz:items.size<=sizeLine):wpAny (model prog w) A (getItem (.ref t) (.ref sl)) Q E s:=by
 have Kf:sizeOk (.seq ((items.toList.drop (fu items.size 0 lo)).take (fu items.size items.size hi-fu items.size 0 lo)).toArray):=by
  show ((items.toList.drop (fu items.size 0 lo)).take (fu items.size items.size hi-fu items.size 0 lo)).toArray.size<=sizeLine;rw[xf,jP,List.length_drop,Array.length_toList];lia
 have hj:fu items.size items.size hi<=items.size:=XJ _ _ (bM _) hi;obtain⟨os,hos,hcs,hds⟩:=id hs;have hTs:s.TypeIs (.ref sl) "slice" := ⟨os,hos,hcs⟩;unfold getItem
 try with_reducible refine wpAny_holding ?_
 first | refine wpAny_bind (wpAny_pure ?_) | skip
 refine wpAny_bind (wpAny_sequenceKey ht.typeIs (by decide) ?_)
 refine wpAny_bind (wpAny_callSpecial?_slot (name:=Str.ofString "__getitem__") ht.typeIs PyProof.Rows.slot_tuple_getitem
  (wpAny_call_entry PyProof.Rows.slot_tuple_getitem ht.typeIs entry_tuple_getitem ?_ (args_tuple_getitem _ _)))
 show wpAny _ _ (Builtin.Tuple.tupleItemsOf (.ref t) >>= _) _ _ s;refine wpAny_bind (tupleItemsOf_ ht ?_);refine wpAny_bind (wpAny_typeOf hTs ?_);rw[if_pos (by decide)];refine wpAny_bind (sG hs pl pu ?_)
 have hno:¬ ((((fu items.size 0 lo:Nat):Int)==0&&(1:Int)==1&&(fu items.size items.size hi-fu items.size 0 lo)==items.size)=true):=by
  intro q;rw[Bool.and_eq_true,Bool.and_eq_true]at q;have q1:((fu items.size 0 lo:Nat):Int)=0:=eq_of_beq q.1.1;have q2:fu items.size items.size hi-fu items.size 0 lo=items.size:=eq_of_beq q.2;exact hw ⟨by lia,by lia⟩
 show wpAny _ _ (if (((fu items.size 0 lo:Nat):Int)==0&&(1:Int)==1&&(fu items.size items.size hi-fu items.size 0 lo)==items.size)=true then _ else _) _ _ s;rw[if_neg hno,QB]
 first
  | exact wpAny_bind (m:=Builtin.Tuple.tupleExact _) (wpAny_newObj_type (wpAny_pure ⟨_,rfl,wpAny_pure h⟩) Kf)
  | exact wpAny_bind (m:=Builtin.Tuple.tupleExact _) (wpAny_newObj_type (wpAny_bind (wpAny_pure (wpAny_pure ⟨_,rfl,wpAny_pure h⟩))) Kf)
  | exact wpAny_bind (wpAny_bind (m:=Builtin.Tuple.tupleExact _) (wpAny_newObj_type (wpAny_pure (wpAny_pure ⟨_,rfl,wpAny_pure h⟩)) Kf))
  | exact wpAny_bind (wpAny_bind (m:=Builtin.Tuple.tupleExact _) (wpAny_newObj_type (wpAny_pure ⟨_,rfl,wpAny_pure h⟩) Kf))
end
end HT
namespace L2
open PySem PySem.Spec PyProof.Rows
noncomputable abbrev TO:=St->Hp->(Option Int->Hp->Prop)->Prop
noncomputable def PO(X:Cx)(e:Option Expr)(t:TO):Prop:=
 ∀(pins:List (Addr×Obj))(s:Shared)(σ:St)(H:Hp)(Q:Option Int->Hp->Prop),Inv X pins σ H s->t σ H Q →
  wpAny (model X.prog X.w) X.A (evalPart e X.env) (fun u s'=>∃ o H',Inv X pins σ H' s'/\IsPart u o/\Q o H') X.xe s
noncomputable def Tp:TO:=fun _ H Q=>Q none H
noncomputable def qA3(t:TE):TO:=fun σ H Q=>t σ H fun x H1 => ∃ i,x = .int i/\Q (some i) H1
theorem intsAre_of{ns:List Int}:∀ {us:List Value},Vals (ns.map V.int) us->IntsAre us ns:=by
 induction ns with
 | nil=>intro us r;rw[List.map_nil]at r;cases r;exact .nil
 | cons n ns ih=>
  intro us r;rw[List.map_cons]at r
  cases r with
  | cons r1 r2=>
   obtain⟨t,e⟩:=r1;subst e;exact .cons n t (ih r2)
section
variable{X:Cx}{e:Expr}{te:TE}{lo hi:Option Expr}{tl th:TO}{pos p2:Pos}
theorem ni:PO X none Tp:=by
 intro pins s σ H Q I h;rw[evalPart_none];exact wpAny_pure ⟨none,H,I,.none,h⟩
theorem nZ(h:PE X e te):PO X (some e) (qA3 te):=by
 intro pins s σ H Q I hw;rw[evalPart_some];refine au (h pins s σ H _ I hw) fun u s1 ⟨x,H1,I1,r1,q1⟩=>?_;obtain⟨i,rfl,q⟩:=q1;obtain⟨t,rfl⟩:=r1;exact⟨some i,H1,I1,.int i t,q⟩
noncomputable def SlR(X:Cx)(r:V->Option Int->Option Int->Hp->VK->Prop):Prop:=
 ∀(pins:List (Addr×Obj))(s:Shared)(σ:St)(H:Hp)(x:V)(v vl vu:Value)(lo hi:Option Int)(sl:Addr)(Q:VK),Inv X pins σ H s->RelV x v->s.heap.IsSliceOf sl vl vu .none->IsPart vl lo->IsPart vu hi->r x lo hi H Q →
  ∃ T id,typeLookup (.type T) "__getitem__" = pure (some (.builtin id))/\s.TypeIs v T/\wpAny (model X.prog X.w) X.A (getItem v (.ref sl)) (EP X pins σ Q) X.xe s
noncomputable def tSl(r:V->Option Int->Option Int->Hp->VK->Prop)(te:TE)(tl th:TO):TE:=fun σ H Q=>te σ H fun x H1=>tl σ H1 fun l H2=>th σ H2 fun u H3=>r x l u H3 Q
theorem jo{r:V->Option Int->Option Int->Hp->VK->Prop}(hr:SlR X r)(he:PE X e te)(hl:PO X lo tl)(hu:PO X hi th):PE X (.Subscript e (.Slice lo hi none p2) pos) (tSl r te tl th):=by
 intro pins s σ H Q I h;refine Subscript_ (au (he pins s σ H _ I h) fun v s1 ⟨x,H1,I1,r1,q1⟩=>?_);refine wpAny_Slice (au (hl pins s1 σ H1 _ I1 q1) fun vl s2 ⟨l,H2,I2,pl,q2⟩=>au (hu pins s2 σ H2 _ I2 q2) fun vu s3 ⟨u,H3,I3,pu,q3⟩=>?_);rw[evalPart_none];refine wpAny_pure ?_;have I4:Inv X pins σ H3 { s3 with heap:=s3.heap.push { cls:=.type "slice",data:=.fields #[vl,vu,.none] } }:=I3.kept (t':=s3.toks) fun b ob q=>j5 _ q;obtain⟨T,id,hT,ht,hg⟩:=hr pins { s3 with heap:=s3.heap.push { cls:=.type "slice",data:=.fields #[vl,vu,.none] } } σ H3 x v vl vu l u s3.heap.objs.size Q I4 r1 (Heap.IsSliceOf.new ..) pl pu q3;show wpAny (model X.prog X.w) X.A (subscriptTail e (.Slice lo hi none p2) v (.ref s3.heap.objs.size)) (EP X pins σ Q) X.xe { s3 with heap:=s3.heap.push { cls:=.type "slice",data:=.fields #[vl,vu,.none] } };exact tail_any (ops:=[.ref s3.heap.objs.size,v]) ht hT hg (by with_unfolding_all rfl)
noncomputable def pN(xs:List V)(lo hi:Option Int):List V:=(xs.drop (HT.fu xs.length 0 lo)).take (HT.fu xs.length xs.length hi-HT.fu xs.length 0 lo)
theorem uI(xs:List V)(lo hi:Option Int):(pN xs lo hi).length<=xs.length:=by
 unfold pN;rw[jP,List.length_drop];lia
noncomputable def qEK(K:bO):V->Option Int->Option Int->Hp->VK->Prop:=fun x lo hi H Q => ∃ a xs,x = .ref a/\aK K H a xs ∧
 ¬ (HT.fu xs.length 0 lo=0/\HT.fu xs.length xs.length hi=xs.length)/\∀ p,H p=none->Q (.ref p) (upd H p (.tup (pN xs lo hi)))
theorem PX:SlR X (qEK X.K):=by
 intro pins s σ H x v vl vu lo hi sl Q I rx hs pl pu h;obtain⟨a,xs,rfl,hx,hw,q⟩:=h
 cases rx
 obtain⟨its,r,ht,hz⟩:=I.tuple hx
 have hlen:its.toArray.size=xs.length:=by rw[xf];exact r.length.symm
 refine⟨"tuple",_,PyProof.Rows.slot_tuple_getitem.lookup,ht.typeIs,?_⟩;refine HT.qu ht hs pl pu (by rw[hlen];exact hw) ?_ (by rw[hlen];exact hz);rw[hlen];refine⟨.ref s.heap.objs.size,_,I.laid (t':=s.toks) (o:=.tup (pN xs lo hi)) (fun b ob q=>j5 _ q) (bM _) ?_,rfl,q _ (I.hok.fresh (bM _))⟩;exact⟨Nat.le_trans (uI xs lo hi) hz,_,(r.drop (HT.fu xs.length 0 lo)).take (HT.fu xs.length xs.length hi-HT.fu xs.length 0 lo),IsTup.new _ _⟩
noncomputable def qB0(K:bO):R2:=fun x y H Q => ∃ a b xs ys,x = .ref a/\y = .ref b/\aK K H a xs/\aK K H b ys/\xs≠[]/\xs.length+ys.length<=sizeLine ∧
 (ys=[]->Q (.ref a) H)/\(ys≠[]->∀ p,H p=none->Q (.ref p) (upd H p (.tup (xs++ys))))
theorem Vals.qg{xs:List V}{us:List Value}(r:Vals xs us):us=[]↔xs=[]:=by
 cases r with
 | nil=>simp
 | cons _ _=>simp
theorem uh:jZ X (binaryOp .Add) (qB0 X.K):=by
 intro pins s σ H x y v u Q I rx ry h;obtain⟨a,b,xs,ys,rfl,rfl,ha,hb,hx,hz,q1,q2⟩:=h
 cases rx
 cases ry
 obtain⟨its,r1,p1,_⟩:=I.tuple ha;obtain⟨its2,r2,p2,_⟩:=I.tuple hb;refine HT.Vq p1 p2 (fun z=>hx (r1.qg.mp z)) (fun z=>⟨.ref a,H,I,rfl,q1 (r2.qg.mp z)⟩) (fun z=>?_) (by rw[<-r1.length,<-r2.length];exact hz);refine⟨.ref s.heap.objs.size,_,I.laid (t':=s.toks) (o:=.tup (xs++ys)) (fun b ob q=>j5 _ q) (bM _) ?_,rfl,q2 (fun w=>z (r2.qg.mpr w)) _ (I.hok.fresh (bM _))⟩;exact⟨by rw[dW];exact hz,_,r1.append r2,IsTup.new _ _⟩
end
noncomputable def Wb(n:Nat)(i:Int):Option Nat:=if 0<=i then (if i<n then some i.toNat else none) else if -(n:Int)<=i then some (i+n).toNat else none
noncomputable def uQ{α:Type}(xs:List α)(i:Int):Option α:=(Wb xs.length i).bind fun j=>xs[j]?
theorem Kc{n:Nat}{i:Int}{j:Nat}(h:Wb n i=some j):seqIndex? i n=some j/\j<n /\ -(n:Int)<=i/\i<n:=by
 unfold Wb at h
 by_cases h0:0<=i
 ·rw[if_pos h0]at h
  by_cases h1:i<n
  ·rw[if_pos h1]at h;have e:i.toNat=j:=jO h;exact⟨by rw[seqIndex_of h0 h1,e],by lia,by lia,h1⟩
  ·rw[if_neg h1]at h;cases h
 ·rw[if_neg h0]at h
  by_cases h1 : -(n:Int)<=i
  ·rw[if_pos h1]at h;have e:(i+n).toNat=j:=jO h;exact⟨by rw[seqIndex_neg (by lia) h1,e],by lia,h1,by lia⟩
  ·rw[if_neg h1]at h;cases h
theorem CJ{α:Type}{xs:List α}{i:Int}{v:α}(h:uQ xs i=some v):∃ j,seqIndex? i xs.length=some j/\xs[j]? = some v/\j<xs.length /\ -(xs.length:Int)<=i/\i<xs.length:=by
 unfold uQ at h
 cases e:Wb xs.length i with
 | none=>rw[e]at h;cases h
 | some j=>
  rw[e]at h;obtain⟨h1,h2,h3,h4⟩:=Kc e;exact⟨j,h1,h,h2,h3,h4⟩
theorem yQ{α:Type}{xs:List α}{j:Nat}{v:α}(h:xs[j]? = some v):uQ xs (j:Int)=some v:=by
 have hj:j<xs.length:=(lQ.mp h).1
 have e:Wb xs.length (j:Int)=some j:=by
  unfold Wb;rw[if_pos (by lia),if_pos (by lia)];simp
 unfold uQ;rw[e];exact h
noncomputable def Lg(b:Expr):Prop:=∀ o i,subscripted b false o i=operate [o,i] (getItem o i)
noncomputable def IxR(X:Cx)(r:R2):Prop:=
 ∀(value slice:Expr)(pins:List (Addr×Obj))(s:Shared)(σ:St)(H:Hp)(x y:V)(v u:Value)(Q:VK),Inv X pins σ H s->RelV x v->RelV y u->r x y H Q →
  subscripted slice false v u=operate [v,u] (getItem v u)->wpAny (model X.prog X.w) X.A (subscriptTail value slice v u) (EP X pins σ Q) X.xe s
noncomputable def MtR(X:Cx)(id:String)(r:V->List V->Hp->VK->Prop):Prop:=
 ∀(pins:List (Addr×Obj))(s:Shared)(σ:St)(H:Hp)(x:V)(xs:List V)(v:Value)(us:List Value)(Q:VK),Inv X pins σ H s->RelV x v->Vals xs us->r x xs H Q →
  wpAny (model X.prog X.w) X.A (call (.builtin id) (v::us)) (EP X pins σ Q) X.xe s
section
variable{X:Cx}{a b:Expr}{ta tb:TE}{pos:Pos}
theorem yB{r:R2}(hr:IxR X r)(ha:PE X a ta)(hb:PE X b tb)(hs:Lg b):PE X (.Subscript a b pos) (tOp r ta tb):=by
 intro pins s σ H Q I h;exact Subscript_ (Z2 ha hb I h fun v u s2 x y H2 I2 rx ry q=>hr a b pins s2 σ H2 x y v u Q I2 rx ry q (hs _ _))
noncomputable def qAZ(K:bO):R2:=fun x y H Q => ∃ p xs i v,x = .ref p/\y = .int i/\aQ K H p xs/\uQ xs i=some v/\Q v H
noncomputable def j9(K:bO):R2:=fun x y H Q => ∃ p xs i v,x = .ref p/\y = .int i/\aK K H p xs/\uQ xs i=some v/\Q v H
noncomputable def qEN:R2:=fun x y H Q => ∃ z i c,x = .str z/\y = .int i/\z.length<=sizeLine/\uQ z.cps.toList i=some c/\Q (.str ⟨#[c]⟩) H
theorem yU:IxR X (qAZ X.K):=by
 intro value slice pins s σ H x y v u Q I rx ry h hs;obtain⟨p,xs,i,z,rfl,rfl,hq,he,q⟩:=h
 cases rx
 obtain⟨t,rfl⟩:=ry;obtain⟨its,r,pl,hz⟩:=I.list hq;obtain⟨j,h1,h2,h3,h4,h5⟩:=CJ he;obtain⟨w,ew,Pq⟩:=r.get h2;have hl:=r.length;have hn:=t7;have fin:EP X pins σ Q w s:=⟨z,H,I,Pq,q⟩
 by_cases h0:0<=i
 ·have hj:i.toNat=j:=by
   rw[seqIndex_of h0 h5]at h1;exact jO h1
  exact item_listR pl.isList h0 (by lia) (by rw[hj];simpa using ew) fin hs
 ·have hj:(i+(its.toArray.size:Int)).toNat=j:=by
   rw[seqIndex_neg (by lia) h4]at h1;rw[xf,<-hl];exact jO h1
  exact subscriptTail_builtinR (x:=w) pl.isList.typeIs slot_list_getitem.lookup
   (wpAny_getItem_list_neg (Q:=fun r s'=>r=w/\EP X pins σ Q r s') pl.isList (by lia) (by rw[List.size_toArray] <;> lia) (by lia) (by rw[hj];simpa using ew) ⟨rfl,fin⟩) hs
theorem zH:IxR X (j9 X.K):=by
 intro value slice pins s σ H x y v u Q I rx ry h hs;obtain⟨p,xs,i,z,rfl,rfl,hq,he,q⟩:=h
 cases rx
 obtain⟨t,rfl⟩:=ry;obtain⟨its,r,pl,hz⟩:=I.tuple hq;obtain⟨j,h1,h2,h3,h4,h5⟩:=CJ he;obtain⟨w,ew,Pq⟩:=r.get h2;have hl:=r.length;have hn:=t7;have fin:EP X pins σ Q w s:=⟨z,H,I,Pq,q⟩;exact subscriptTail_builtinR (x:=w) pl.typeIs slot_tuple_getitem.lookup
  (getItem_tuple (j:=j) (Q:=fun r s'=>r=w/\EP X pins σ Q r s') pl (by lia) (by lia) (by rw[List.size_toArray,<-hl];exact h1) (by simpa using ew) ⟨rfl,fin⟩) hs
theorem YZ:IxR X qEN:=by
 intro value slice pins s σ H x y v u Q I rx ry h hs;obtain⟨z,i,c,rfl,rfl,hz,he,q⟩:=h;obtain⟨t,rfl⟩:=rx;obtain⟨t',rfl⟩:=ry;obtain⟨j,h1,h2,h3,h4,h5⟩:=CJ he
 have hl:z.cps.toList.length=z.length:=by simp [Str.length]
 rw[hl]at h1 h4 h5;have hn:=t7
 exact tail_any (typeIs_str s z t) slot_str_getitem.lookup (getItem_str (c:=c) (by
  have e1:decide (i < -(2 ^ 63:Int))=false:=decide_eq_false (by lia);have e2:decide (i≥2 ^ 63)=false:=decide_eq_false (by lia)
  rw[e1,e2,Bool.or_false]) (by rw[h1];simpa using h2) ⟨.str ⟨#[c]⟩,H,I.tok _,⟨_,rfl⟩,q⟩) hs
theorem I9(its:List Value)(n j:Nat)(u:Value):Obj.mapSeq (·.setIfInBounds j u) { cls:=.type "list",data:=.seq its.toArray n } = { cls:=.type "list",data:=.seq (its.set j u).toArray n }:=by
 simp [Obj.mapSeq]
theorem Inv.lst{pins:List (Addr×Obj)}{σ:St}{H:Hp}{s:Shared}{p:Addr}{xs:List V}(I:Inv X pins σ H s)(h:H p=some (.lst xs)) :
  ∃(its:List Value)(n:Nat),Vals xs its/\s.heap.get? p=some { cls:=.type "list",data:=.seq its.toArray n }/\xs.length<=sizeLine:=by
 obtain⟨z,its,n,r,e⟩:=I.hok p _ h;exact⟨its,n,r,e,z⟩
theorem Inv.YB{pins:List (Addr×Obj)}{σ:St}{H:Hp}{s:Shared}{p:Addr}{xs ys:List V}{its its':List Value}{n n':Nat}{f:Obj->Obj}(I:Inv X pins σ H s)(h:H p=some (.lst xs))
  (ho:s.heap.get? p=some { cls:=.type "list",data:=.seq its.toArray n }) (hf:f { cls:=.type "list",data:=.seq its.toArray n } = { cls:=.type "list",data:=.seq its'.toArray n' }) (r:Vals ys its') (hz:ys.length<=sizeLine) (t:Nat) :
  Inv X pins σ (upd H p (.lst ys)) { s with heap:=s.heap.update p f,toks:=t }:=by
 have e:(s.heap.update p f).get? p=some { cls:=.type "list",data:=.seq its'.toArray n' }:=by
  rw[Heap.get?_update_self f ho (by rw[hf] <;> rfl),hf]
 refine I.write (x:=p) (e:=p) (by rw[h];trivial) (.inl rfl) (fun b u hb q=>(Heap.get?_update_other _ _ (Ne.symm hb)).trans q) ⟨_,e⟩ ?_;exact⟨hz,its',n',r,e⟩
noncomputable def qAX:V->V->V->Hp->(Hp->Prop)->Prop:=fun o i v H Q => ∃ p xs k j,o = .ref p/\i = .int k/\H p=some (.lst xs)/\Wb xs.length k=some j/\Q (upd H p (.lst (xs.set j v)))
theorem set_list:qDW X qAX:=by
 intro pins s σ H o i v ov iv u Q I ro ri rv h;obtain⟨p,xs,k,j,rfl,rfl,hp,hj,q⟩:=h
 cases ro
 obtain⟨t,rfl⟩:=ri;obtain⟨its,n,r,ho,hz⟩:=I.lst hp;obtain⟨h1,h2,h3,h4⟩:=Kc hj;have hl:=r.length;have hn:=t7
 have I':Inv X pins σ (upd H p (.lst (xs.set j v))) { s with heap:=s.heap.update p (Obj.mapSeq (·.setIfInBounds j u)) }:=
  I.YB hp ho (I9 its n j u) (r.set rv j) (by rw[List.length_set];exact hz) s.toks
 by_cases h0:0<=k
 ·have hk:k.toNat=j:=by
   rw[seqIndex_of h0 h4]at h1;exact jO h1
  exact PySem.W.ki_setAt ho h0 (by lia) (by rw[xf,<-hl];exact h4) (by rw[hk];exact⟨_,I',q⟩)
 ·have hk:(k+(its.toArray.size:Int)).toNat=j:=by
   rw[seqIndex_neg (by lia) h3]at h1;rw[xf,<-hl];exact jO h1
  exact PySem.W.ki_setBack ho (by lia) (by rw[xf,<-hl];exact h3) (by lia) (by rw[hk];exact⟨_,I',q⟩)
theorem Ay(lo hi:Option Int)(n:Nat):(sliceBounds lo hi none n).1=((HT.fu n 0 lo:Nat):Int)/\(sliceBounds lo hi none n).2.1=((HT.fu n n hi:Nat):Int)/\(sliceBounds lo hi none n).2.2=1:=by
 refine⟨?_,?_,rfl⟩
 ·cases lo with
  | none=>simp [sliceBounds,HT.fu]
  | some i=>
   simp only[sliceBounds,HT.fu,Option.getD_none,show (1:Int)>0 by decide,if_true]
   by_cases h:i<0
   ·simp only[h,if_true] <;> lia
   ·simp only[h,if_false] <;> lia
 ·cases hi with
  | none=>simp [sliceBounds,HT.fu]
  | some i=>
   simp only[sliceBounds,HT.fu,Option.getD_none,show (1:Int)>0 by decide,if_true]
   by_cases h:i<0
   ·simp only[h,if_true] <;> lia
   ·simp only[h,if_false] <;> lia
theorem xO(its:List Value)(lo hi:Option Int):slicePick its.toArray lo hi none=((its.drop (HT.fu its.length 0 lo)).take (HT.fu its.length its.length hi-HT.fu its.length 0 lo)).toArray:=by
 obtain⟨h1,h2,h3⟩:=Ay lo hi its.toArray.size;unfold slicePick;rw[h1,h2,h3];simp only[sliceRange_one,pick_run,List.size_toArray] <;> rfl
noncomputable def qEL(K:bO):V->Option Int->Option Int->Hp->VK->Prop:=fun x lo hi H Q => ∃ a xs,x = .ref a/\aQ K H a xs/\∀ p,H p=none->Q (.ref p) (upd H p (.lst (pN xs lo hi)))
theorem Jq:SlR X (qEL X.K):=by
 intro pins s σ H x v vl vu lo hi sl Q I rx hs pl pu h;obtain⟨a,xs,rfl,hx,q⟩:=h
 cases rx
 obtain⟨its,r,ht,hz⟩:=I.list hx;have hlen:=r.length;refine⟨"list",_,slot_list_getitem.lookup,ht.isList.typeIs,?_⟩;refine wpAny_getItem_list_slice ht.isList hs pl pu .none (by simp) ?_ (by rw[List.size_toArray] <;> lia);rw[xO,<-hlen];refine⟨.ref s.heap.objs.size,_,I.laid (t':=s.toks) (o:=.lst (pN xs lo hi)) (fun b ob q=>j5 _ q) (bM _) ?_,rfl,q _ (I.hok.fresh (bM _))⟩;exact⟨Nat.le_trans (uI xs lo hi) hz,_,0,(r.drop (HT.fu xs.length 0 lo)).take (HT.fu xs.length xs.length hi-HT.fu xs.length 0 lo),xJ _ rfl⟩
noncomputable def mj:V->Bool
 | .non=>true
 | .bl _=>true
 | .int _=>true
 | .str _=>true
 | _=>false
noncomputable def Tc:V->V->Bool
 | .non,.non=>true
 | .bl a,.bl b=>a==b
 | .bl a,.int b=>(if a then 1 else 0)==b
 | .int a,.bl b=>a==(if b then 1 else 0)
 | .int a,.int b=>a==b
 | .str a,.str b=>a==b
 | _,_=>false
theorem Ys{A:Around}{s:Shared}{y x:V}{u v:Value}(ry:RelV y u)(rx:RelV x v)(fy:mj y=true)(fx:mj x=true):SeqAt.EqAt A s u v (Tc y x):=by
 cases y with
 | non=>
  cases ry
  cases x with
  | non=>cases rx;exact SeqAt.EqAt.same _
  | bl b=>cases rx;exact SeqAt.EqAt.none_bool b
  | int b=>obtain⟨t,rfl⟩:=rx;exact SeqAt.EqAt.none_int b t
  | str b=>obtain⟨t,rfl⟩:=rx;exact SeqAt.EqAt.none_str b t
  | _=>exact absurd (show false=true from fx) pZ
 | bl a=>
  cases ry
  cases x with
  | non=>cases rx;exact SeqAt.EqAt.bool_none a
  | bl b=>cases rx;exact SeqAt.EqAt.bool_bool a b
  | int b=>obtain⟨t,rfl⟩:=rx;exact SeqAt.EqAt.bool_int a b t
  | str b=>obtain⟨t,rfl⟩:=rx;exact SeqAt.EqAt.bool_str a b t
  | _=>exact absurd (show false=true from fx) pZ
 | int a=>
  obtain⟨t',rfl⟩:=ry
  cases x with
  | non=>cases rx;exact SeqAt.EqAt.int_none a t'
  | bl b=>cases rx;exact SeqAt.EqAt.int_bool a t' b
  | int b=>obtain⟨t,rfl⟩:=rx;exact SeqAt.EqAt.int_int a t' b t
  | str b=>obtain⟨t,rfl⟩:=rx;exact SeqAt.EqAt.int_str a t' b t
  | _=>exact absurd (show false=true from fx) pZ
 | str a=>
  obtain⟨t',rfl⟩:=ry
  cases x with
  | non=>cases rx;exact SeqAt.EqAt.str_none a t'
  | bl b=>cases rx;exact SeqAt.EqAt.str_bool a t' b
  | int b=>obtain⟨t,rfl⟩:=rx;exact SeqAt.EqAt.str_int a t' b t
  | str b=>obtain⟨t,rfl⟩:=rx;exact SeqAt.EqAt.str_str a t' b t
  | _=>exact absurd (show false=true from fx) pZ
 | _=>exact absurd (show false=true from fy) pZ
noncomputable def Iz(x:V)(u:Value):Bool:=match u with
 | .none=>Tc .non x
 | .bool b=>Tc (.bl b) x
 | .int i _=>Tc (.int i) x
 | .str z _=>Tc (.str z) x
 | _=>false
theorem Rg{x y:V}{u:Value}(r:RelV y u)(f:mj y=true):Iz x u=Tc y x:=by
 cases y with
 | non=>cases r;rfl
 | bl b=>cases r;rfl
 | int i=>obtain⟨t,rfl⟩:=r;rfl
 | str z=>obtain⟨t,rfl⟩:=r;rfl
 | _=>exact absurd (show false=true from f) pZ
theorem rD{x:V}:∀ {xs:List V} {us:List Value},Vals xs us->xs.all mj=true->us.any (Iz x)=xs.any fun y=>Tc y x
 | _,_,.nil,_=>rfl
 | y::xs,u::us,.cons r t,f=>by
  rw[List.all_cons,Bool.and_eq_true]at f;rw[List.any_cons,List.any_cons,Rg r f.1,rD t f.2]
theorem mX{A:Around}{s:Shared}{x:V}{v:Value}(rx:RelV x v)(fx:mj x=true):∀ {xs:List V} {us:List Value},Vals xs us->xs.all mj=true->∀ u∈us,SeqAt.EqAt A s u v (Iz x u)
 | _,_,.nil,_=>fun u hu=>by cases hu
 | y::xs,u::us,.cons r t,f=>fun u' hu=>by
  rw[List.all_cons,Bool.and_eq_true]at f;rcases bI.mp hu with rfl | hu
  ·rw[Rg r f.1];exact Ys r rx f.1 fx
  ·exact mX rx fx t f.2 u' hu
noncomputable def inV(x:V)(xs:List V):Bool:=xs.any fun y=>Tc y x
noncomputable def rIn(K:bO)(neg:Bool):R2:=fun x y H Q => ∃ p xs,y = .ref p/\(aQ K H p xs∨aK K H p xs)/\mj x=true/\xs.all mj=true/\Q (.bl (if neg then !inV x xs else inV x xs)) H
theorem sX:jZ X (compareOp .In) (rIn X.K false):=by
 intro pins s σ H x y v u Q I rx ry h;obtain⟨p,xs,rfl,hq,fx,fs,q⟩:=h
 cases ry
 rcases hq with hq | hq
 ·obtain⟨its,r,pl,hz⟩:=I.list hq;refine SeqAt.in_listAt (Iz x) pl.isList (fun w hw=>mX rx fx r fs w (by simpa using hw)) ⟨.bl _,H,I,rfl,?_⟩;rw[show its.toArray.any (Iz x)=its.any (Iz x) by simp,rD r fs];exact q
 ·obtain⟨its,r,pl,hz⟩:=I.tuple hq;refine SeqAt.in_tupleAt (Iz x) pl (fun w hw=>mX rx fx r fs w (by simpa using hw)) ⟨.bl _,H,I,rfl,?_⟩;rw[show its.toArray.any (Iz x)=its.any (Iz x) by simp,rD r fs];exact q
theorem lD:jZ X (compareOp .NotIn) (rIn X.K true):=by
 intro pins s σ H x y v u Q I rx ry h;obtain⟨p,xs,rfl,hq,fx,fs,q⟩:=h
 cases ry
 rcases hq with hq | hq
 ·obtain⟨its,r,pl,hz⟩:=I.list hq;refine SeqAt.notIn_listAt (Iz x) pl.isList (fun w hw=>mX rx fx r fs w (by simpa using hw)) ⟨.bl _,H,I,rfl,?_⟩;rw[show its.toArray.any (Iz x)=its.any (Iz x) by simp,rD r fs];exact q
 ·obtain⟨its,r,pl,hz⟩:=I.tuple hq;refine SeqAt.notIn_tupleAt (Iz x) pl (fun w hw=>mX rx fx r fs w (by simpa using hw)) ⟨.bl _,H,I,rfl,?_⟩;rw[show its.toArray.any (Iz x)=its.any (Iz x) by simp,rD r fs];exact q
theorem zN:jz X (.builtin "len") (fun xs H Q => ∃ p ys,xs=[.ref p]/\(aQ X.K H p ys∨aK X.K H p ys)/\Q (.int ys.length) H):=by
 intro pins s σ H xs us Q I r h;obtain⟨p,ys,rfl,hq,q⟩:=h;obtain⟨u,rfl,rx⟩:=vals1 r
 cases rx
 have hn:=t7;rcases hq with hq | hq
 ·obtain⟨its,r',pl,hz⟩:=I.list hq;have hlen:=r'.length;exact Calls.call_len_list pl.isList (by simp only[List.size_toArray] <;> lia) ⟨.int ys.length,H,I.tok _,⟨s.toks+1,by rw[List.size_toArray,hlen]⟩,q⟩
 ·obtain⟨its,r',pl,hz⟩:=I.tuple hq;have hlen:=r'.length;exact len_tuple pl (by simp only[List.size_toArray] <;> lia) ⟨.int ys.length,H,I.tok _,⟨s.toks+1,by rw[List.size_toArray,hlen]⟩,q⟩
theorem CG:jz X (.builtin "len") (fun xs H Q => ∃ z,xs=[.str z]/\z.length<=sizeLine/\Q (.int z.length) H):=by
 intro pins s σ H xs us Q I r h;obtain⟨z,rfl,hz,q⟩:=h;obtain⟨u,rfl,t,rfl⟩:=vals1 r;have hn:=t7;exact len_str (by lia) ⟨.int z.length,H,I.tok _,⟨_,rfl⟩,q⟩
theorem fL:jz X (.type "list") (fun xs H Q => ∃ p ys,xs=[.ref p]/\(aQ X.K H p ys∨aK X.K H p ys)/\∀ l,H l=none->Q (.ref l) (upd H l (.lst ys))):=by
 intro pins s σ H xs us Q I r h;obtain⟨p,ys,rfl,hq,q⟩:=h;obtain⟨u,rfl,rx⟩:=vals1 r
 cases rx
 have fin:∀(its:List Value),Vals ys its->ys.length<=sizeLine->∀(h':Heap)(c':Nat),(∀ b o',s.heap.get? b=some o'->h'.get? b=some o') →
   h'.get? s.heap.objs.size=some { cls:=.type "list",dict:=none,data:=.seq its.toArray c',slots:=#[] }->EP X pins σ Q (.ref s.heap.objs.size) { s with heap:=h' }:=fun its r' hz h' c' kp e=>
  ⟨.ref s.heap.objs.size,_,I.laid (t':=s.toks) kp (bM _) (show bL X.prog X.w _ h' _ (.lst ys) from ⟨hz,its,c',r',e⟩),rfl,q _ (I.hok.fresh (bM _))⟩
 rcases hq with hq | hq
 ·obtain⟨its,r',pl,hz⟩:=I.list hq;have hlen:=r'.length;obtain⟨o,ho,hc,n,hd⟩:=pl.isList;exact call_list_seq p (.inl rfl) ho hc hd (fun h' c' kp e=>fin its r' hz h' c' kp e) (by simp only[List.size_toArray] <;> lia)
 ·obtain⟨its,r',pl,hz⟩:=I.tuple hq;have hlen:=r'.length;obtain⟨o,ho,hc,n,hd⟩:=pl;exact call_list_seq p (.inr rfl) ho hc hd (fun h' c' kp e=>fin its r' hz h' c' kp e) (by simp only[List.size_toArray] <;> lia)
theorem zX:jz X (.type "tuple") (fun xs H Q => ∃ p ys,xs=[.ref p]/\((aQ X.K H p ys/\∀ l,H l=none->Q (.ref l) (upd H l (.tup ys)))∨(aK X.K H p ys/\Q (.ref p) H))):=by
 intro pins s σ H xs us Q I r h;obtain⟨p,ys,rfl,h⟩:=h;obtain⟨u,rfl,rx⟩:=vals1 r
 cases rx
 rcases h with ⟨hq,q⟩ | ⟨hq,q⟩
 ·obtain⟨its,r',pl,hz⟩:=I.list hq;have hlen:=r'.length;refine call_tuple_list pl.isList (fun h' kp=>?_) (by simp only[List.size_toArray] <;> lia);have I1:Inv X pins σ H { s with heap:=h' }:=I.kept (t':=s.toks) kp
  have I2:Inv X pins σ (upd H h'.objs.size (.tup ys)) { s with heap:=h'.push { cls:=.type "tuple",data:=.seq its.toArray } }:=
   I1.laid (t':=s.toks) (fun b o e=>j5 _ e) (bM _) (show bL X.prog X.w _ _ _ (.tup ys) from ⟨hz,its,r',IsTup.new _ _⟩)
  exact⟨.ref h'.objs.size,_,I2,rfl,q _ (I1.hok.fresh (bM _))⟩
 ·obtain⟨its,r',pl,hz⟩:=I.tuple hq;exact call_tuple_same pl ⟨.ref p,H,I,rfl,q⟩
noncomputable def tyV(K:bO)(T:String)(x:V)(H:Hp):Prop:=match x with
 | .str _=>T = "str"
 | .int _=>T = "int"
 | .ref p=>(T = "list" /\ ∃ xs,aQ K H p xs)∨(T = "tuple" /\ ∃ o,K.lookup p=some o/\o.cls = .type "tuple" /\ o.dict=none) ∨
   (T = "dict" /\ ((∃ kvs,H p=some (.dK kvs)) ∨ ∃ kvs,H p=some (.dT kvs)))∨(T = "set" /\ ∃ S n,H p=some (.set S n))
 | _=>False
theorem Od{pins:List (Addr×Obj)}{σ:St}{H:Hp}{s:Shared}{T:String}{x:V}{v:Value}(I:Inv X pins σ H s)(r:RelV x v)(ty:tyV X.K T x H) :
  s.TypeIs v T/\∀ a,v = .ref a->∃ ob,s.heap.get? a=some ob/\ob.dict=none:=by
 cases x with
 | str z=>
  obtain⟨t,rfl⟩:=r
  cases (show T = "str" from ty)
  exact⟨typeIs_str s z t,fun _ e=>nomatch e⟩
 | int i=>
  obtain⟨t,rfl⟩:=r
  cases (show T = "int" from ty)
  exact⟨typeIs_int s i t,fun _ e=>nomatch e⟩
 | ref p=>
  cases r
  rcases ty with ⟨rfl,xs,hq⟩ | ⟨rfl,o,hk,hc,hd⟩ | ⟨rfl,hk⟩ | ⟨rfl,S,n,hk⟩
  ·obtain⟨its,_,pl,_⟩:=I.list hq;refine⟨pl.isList.typeIs,fun a e=>?_⟩
   cases e
   obtain⟨o,n,e,c,hd,_⟩:=pl;exact⟨o,e,hd⟩
  ·refine⟨⟨o,I.lq p o hk,hc⟩,fun a e=>?_⟩
   cases e
   exact⟨o,I.lq _ o hk,hd⟩
  ·have z:∃ o,s.heap.get? p=some o/\o.ExactDict:=by
    rcases hk with ⟨kvs,hk⟩ | ⟨kvs,hk⟩
    ·obtain⟨_,_,_,_,o,_,_,e,ex,_⟩:=I.hok p _ hk;exact⟨o,e,ex⟩
    ·obtain⟨_,_,_,_,o,_,_,e,ex,_⟩:=I.hok p _ hk;exact⟨o,e,ex⟩
   obtain⟨o,e,ex⟩:=z;refine⟨⟨o,e,ex.1⟩,fun a e2=>?_⟩
   cases e2
   exact⟨o,e,ex.2.1⟩
  ·obtain⟨o,_,_,_,e,ex,_⟩:=I.hok p _ hk;refine⟨⟨o,e,ex.1⟩,fun a e2=>?_⟩
   cases e2
   exact⟨o,e,ex.2.1⟩
 | _=>exact False.elim ty
noncomputable def qED(K:bO)(T:String)(r:V->List V->Hp->VK->Prop)(to:TE):TE:=fun σ H Q=>to σ H fun x H1=>tyV K T x H1/\r x [] H1 Q
noncomputable def tBM(K:bO)(T:String)(r:V->List V->Hp->VK->Prop)(to:TE)(t:TA):TE:=fun σ H Q=>to σ H fun x H1=>tyV K T x H1/\t σ H1 fun xs H2=>r x xs H2 Q
variable{o e:Expr}{es:List Expr}{to:TE}{t:TA}{name:Str}{apos cpos:Pos}{T id:String}{r:V->List V->Hp->VK->Prop}
theorem Xh(pa:PlainAttrs T)(slot:Slot T name id)(hty:typeOf (.builtin id)=pure (.type "method_descriptor"))(hm:MtR X id r)(ho:PE X o to)
  (hbase:attributeBase o name X.env (eval o X.env)=eval o X.env:=by rfl) (hline:(apos.endLine==cpos.line)=true:=by rfl):PE X (.Call (.Attribute o name apos) [] [] cpos) (qED X.K T r to):=by
 intro pins s σ H Q I h;refine wpAny_Call_method0_late hbase hline (au (ho pins s σ H _ I h) fun v s1 ⟨x,H1,I1,r1,ty,q1⟩=>?_);obtain⟨h1,h2⟩:=Od I1 r1 ty;exact⟨T,id,pa,slot,hty,h1,h2,Calls.callWith_builtin rfl (PySem.evalArgs_none (hm pins s1 σ H1 x [] v [] Q I1 r1 .nil q1))⟩
theorem dJ(pa:PlainAttrs T)(slot:Slot T name id)(hty:typeOf (.builtin id)=pure (.type "method_descriptor"))(hm:MtR X id r)(ho:PE X o to)(ha:PA X (e::es) t)
  (hbase:attributeBase o name X.env (eval o X.env)=eval o X.env:=by rfl)
  (hfew:((backTo cpos (starEach (e::es) X.env)).all (fun x => !x.1)&&(backToKw cpos (keywordEach [] X.env)).all (fun x=>x.1.isSome)
   && decide ((e::es).length+([]:List Keyword).length+(if ([]:List Keyword).isEmpty then 0 else 1)<30))=true:=by rfl)
  (hline:(apos.endLine==cpos.line)=true:=by rfl) (hs:starEach (e::es) X.env=(false,eval e X.env)::starEach es X.env:=by rfl) (hplain:(backTo cpos (starEach es X.env)).any (·.1)=false:=by rfl) :
  PE X (.Call (.Attribute o name apos) (e::es) [] cpos) (tBM X.K T r to t):=by
 intro pins s σ H Q I h;refine wpAny_Call_method_late hbase hfew hline rfl (au (ho pins s σ H _ I h) fun v s1 ⟨x,H1,I1,r1,ty,q1⟩=>?_);obtain⟨h1,h2⟩:=Od I1 r1 ty;refine⟨T,id,pa,slot,hty,h1,h2,?_⟩;have hA:=ha cpos pins s1 σ H1 _ I1 q1;rw[hs]at hA ⊢;refine Calls.callWith_builtin (by show (false||(backTo cpos (starEach es X.env)).any (·.1))=false;rw[hplain] <;> rfl) (Calls.evalArgs_plain ?_);exact au hA fun us s2 ⟨vs,H2,I2,r2,q2⟩=>hm pins s2 σ H2 x vs v us Q I2 r1 r2 q2
end
noncomputable def MtM(X:Cx)(id:String)(r:V->List V->Hp->VK->Prop):Prop:=
 ∀(pins:List (Addr×Obj))(s:Shared)(σ:St)(H:Hp)(x:V)(xs:List V)(v:Value)(us:List Value)(Q:VK),Inv X pins σ H s->RelV x v->Vals xs us->r x xs H Q →
  wpAny (model X.prog X.w) X.A (call (.builtin id) (v::us)) (EP X pins σ Q) X.xe s
theorem Vals.one:∀ {x:V} {us:List Value},Vals [x] us->∃ u,us=[u]/\RelV x u
 | _,_,.cons r .nil=>⟨_,rfl,r⟩
theorem Vals.zero:∀ {us:List Value},Vals [] us->us=[]
 | _,.nil=>rfl
theorem Vals.dropLast{xs:List V}{us:List Value}(h:Vals xs us):Vals xs.dropLast us.dropLast:=by
 induction h with
 | nil=>exact .nil
 | cons r t ih=>
  cases t with
  | nil=>exact .nil
  | cons q t'=>exact .cons r ih
theorem Vals.eraseIdx:∀ {xs:List V} {us:List Value} (i:Nat),Vals xs us->Vals (xs.eraseIdx i) (us.eraseIdx i)
 | _,_,_,.nil=>.nil
 | _,_,0,.cons _ t=>t
 | _,_,i+1,.cons r t=>.cons r (Vals.eraseIdx i t)
theorem Vals.rep{xs:List V}{us:List Value}(h:Vals xs us):∀ k:Nat,Vals (List.replicate k xs).flatten (List.replicate k us).flatten
 | 0=>.nil
 | k+1=>by
  rw[List.replicate_succ,List.replicate_succ,List.flatten_cons,List.flatten_cons];exact Vals.append h (Vals.rep h k)
theorem Iw{α:Type}(l:List α):l.eraseIdx (l.length-1)=l.dropLast:=by
 induction l with
 | nil=>rfl
 | cons a r ih=>
  cases r with
  | nil=>rfl
  | cons b r=>
   have e:(a::b::r).length-1=((b::r).length-1)+1:=by
    have h1:(a::b::r).length=r.length+2:=rfl;have h2:(b::r).length=r.length+1:=rfl;lia
   rw[e,List.eraseIdx_cons_succ,ih]
   all_goals rfl
theorem yw{α:Type}:∀(l:List α)(i:Nat),(l.eraseIdx i).length<=l.length
 | [],_=>bM _
 | _::_,0=>Nat.le_succ _
 | _::r,i+1=>Nat.succ_le_succ (yw r i)
theorem foldl_rep(its:List Value):∀(k:Nat)(acc:List Value),
  List.foldl (fun x1 x2=>x1++x2) acc.toArray (List.replicate k its.toArray)=(acc++(List.replicate k its).flatten).toArray
 | 0,acc=>by simp
 | k+1,acc=>by
  have e:acc.toArray++its.toArray=(acc++its).toArray:=by simp
  have e2:(acc++its)++(List.replicate k its).flatten=acc++(List.replicate (k+1) its).flatten:=by
   rw[List.replicate_succ,List.flatten_cons,List.append_assoc]
  rw[<-e2,<-foldl_rep its k (acc++its),<-e,List.replicate_succ,List.foldl_cons]
section
variable{X:Cx}{pins:List (Addr×Obj)}{σ:St}{H:Hp}{s:Shared}{l b:Addr}{xs ys zs:List V}
theorem Inv.VP{its its':List Value}{n:Nat}{f:Array Value->Array Value}{t':Nat}(I:Inv X pins σ H s)(hH:H l=some (.lst xs))
  (e:s.heap.get? l=some { cls:=.type "list",data:=.seq its.toArray n }) (hf:f its.toArray=its'.toArray) (hv:Vals ys its') (hz:ys.length<=sizeLine) :
  Inv X pins σ (upd H l (.lst ys)) { s with heap:=s.heap.update l (Obj.mapSeq f),toks:=t' }:=by
 have q:=PySem.IsL.update e f;rw[hf]at q;refine I.write (x:=l) (e:=l) (by rw[hH];exact trivial) (.inl rfl) (fun b' u hb hu=>(Heap.get?_update_other s.heap (Obj.mapSeq f) (Ne.symm hb)).trans hu) ⟨_,q⟩ ?_;exact⟨hz,its',_,hv,q⟩
theorem Inv.qF3{its:List Value}{t':Nat}(I:Inv X pins σ H s)(hv:Vals ys its)(hz:ys.length<=sizeLine) :
  Inv X pins σ (upd H s.heap.objs.size (.lst ys)) { s with heap:=s.heap.push { cls:=.type "list",data:=.seq its.toArray },toks:=t' }:=
 I.laid (fun _ _ q=>j5 _ q) (bM _) ⟨hz,its,0,hv,xJ _ rfl⟩
theorem Inv.fresh(I:Inv X pins σ H s):H s.heap.objs.size=none:=I.hok.fresh (bM _)
theorem Inv.IW(I:Inv X pins σ H s)(hH:H l=some (.lst xs)):xs.length<=sizeLine/\∃(its:List Value)(n:Nat),Vals xs its/\xs.length=its.length/\s.heap.get? l=some { cls:=.type "list",data:=.seq its.toArray n }:=by
 obtain⟨z,its,n,r,e⟩:=I.hok l _ hH;exact⟨z,its,n,r,r.length,e⟩
theorem Qm{n:Nat}(h:n<=sizeLine):Builtin.List.listTooLong n=false:=by
 unfold Builtin.List.listTooLong;exact decide_eq_false (by lia)
end
section
variable{X:Cx}
noncomputable def Ub:V->List V->Hp->VK->Prop:=fun x vs H Q => ∃ l xs y,x = .ref l/\vs=[y]/\H l=some (.lst xs)/\xs.length<sizeLine/\Q .non (upd H l (.lst (xs++[y])))
theorem yH:MtM X "list.append" Ub:=by
 intro pins s σ H x vs v us Q I rx rv h;obtain⟨l,xs,y,rfl,rfl,hH,hz,q⟩:=h
 cases rx
 obtain⟨u,rfl,ru⟩:=rv.one;obtain⟨z,its,n,r,hl,e⟩:=I.IW hH;refine call_meets F.slot_list_append ⟨_,e,rfl⟩ F.entry_list_append (F.args_list_append_2 _ _) (PySem.list_append l its.toArray n u (by rw[xf];lia)) ⟨e,?_⟩;refine⟨.non,_,I.VP (its':=its++[u]) hH e (by simp) (r.append (.cons ru .nil)) ?_,rfl,q⟩;rw[dW,gj];lia
noncomputable def Ua:V->List V->Hp->VK->Prop:=fun x vs H Q => ∃ l b xs zs,x = .ref l/\vs=[.ref b]/\H l=some (.lst xs)/\H b=some (.lst zs)/\xs.length+zs.length<=sizeLine/\Q .non (upd H l (.lst (xs++zs)))
theorem iK:MtM X "list.extend" Ua:=by
 intro pins s σ H x vs v us Q I rx rv h;obtain⟨l,b,xs,zs,rfl,rfl,hH,hB,hz,q⟩:=h
 cases rx
 obtain⟨u,rfl,ru⟩:=rv.one
 cases ru
 obtain⟨z,its,n,r,hl,e⟩:=I.IW hH;obtain⟨z2,its2,n2,r2,hl2,e2⟩:=I.IW hB
 have hsz:its.toArray.size+its2.toArray.size<=sizeLine:=by rw[xf,xf];lia
 have qC3:¬ (!its.toArray.isEmpty&&Builtin.List.listTooLong (its.toArray.size+its2.toArray.size))=true:=by
  rw[Qm hsz,Bool.and_false];exact pZ
 refine call_meets F.slot_list_extend ⟨_,e,rfl⟩ F.entry_list_extend (F.args_list_extend_2 _ _)
  (AutoSeq1.list_extend_list_list_0 l its.toArray n b its2.toArray n2 qC3 (by rw[xf];lia) (by lia)) ⟨e,e2,?_⟩
 refine⟨.non,_,I.VP (its':=its++its2) hH e (by simp) (r.append r2) ?_,rfl,q⟩;rw[dW];lia
noncomputable def qEM:V->List V->Hp->VK->Prop:=fun x vs H Q => ∃ l xs y,x = .ref l/\vs=[]/\H l=some (.lst xs)/\xs[xs.length-1]? = some y/\Q y (upd H l (.lst xs.dropLast))
theorem Y5:MtM X "list.pop" qEM:=by
 intro pins s σ H x vs v us Q I rx rv h;obtain⟨l,xs,y,rfl,rfl,hH,hy,q⟩:=h
 cases rx
 have hus:=rv.zero;subst hus;obtain⟨z,its,n,r,hl,e⟩:=I.IW hH;obtain⟨u,hu,ru⟩:=r.get hy
 have hy':its.toArray[its.toArray.size-1]? = some u:=by
  show its.toArray[its.length-1]? = some u;rw[<-Array.getElem?_toList,<-hl];exact hu
 refine call_meets F.slot_list_pop ⟨_,e,rfl⟩ F.entry_list_pop (F.args_list_pop_1 _) (MeetsSeq.list_pop_last l its.toArray n u hy' (by rw[xf];lia)) ⟨e,?_⟩;refine⟨y,_,I.VP (its':=its.dropLast) hH e ?_ r.dropLast ?_,ru,q⟩
 ·show its.toArray.eraseIdxIfInBounds (its.toArray.size-1)=its.dropLast.toArray;rw[xf,List.eraseIdxIfInBounds_toArray,Iw]
 ·rw[List.length_dropLast];lia
noncomputable def XX:V->List V->Hp->VK->Prop:=fun x vs H Q => ∃ l xs i k y,x = .ref l/\vs=[.int i]/\H l=some (.lst xs) /\ -(2 ^ 63)<=i/\i<2 ^ 63/\seqIndex? i xs.length=some k/\xs[k]? = some y/\Q y (upd H l (.lst (xs.eraseIdx k)))
theorem Qq:MtM X "list.pop" XX:=by
 intro pins s σ H x vs v us Q I rx rv h;obtain⟨l,xs,i,k,y,rfl,rfl,hH,h1,h2,hk,hy,q⟩:=h
 cases rx
 obtain⟨u,rfl,ru⟩:=rv.one;obtain⟨t,rfl⟩:=ru;obtain⟨z,its,n,r,hl,e⟩:=I.IW hH;obtain⟨w,hw,Pq⟩:=r.get hy;refine call_meets F.slot_list_pop ⟨_,e,rfl⟩ F.entry_list_pop (F.args_list_pop_2 _ _)
  (MeetsSeq.list_pop_at l its.toArray n i t k w (fitsIndex_both h1 h2) (by rw[xf,<-hl];exact hk) (by rw[<-Array.getElem?_toList];exact hw) (by rw[xf];lia)) ⟨e,?_⟩
 refine⟨y,_,I.VP (its':=its.eraseIdx k) hH e ?_ (r.eraseIdx k) ?_,Pq,q⟩
 ·show its.toArray.eraseIdxIfInBounds k=(its.eraseIdx k).toArray;rw[List.eraseIdxIfInBounds_toArray]
 ·have:=yw xs k;lia
noncomputable def qEO:R2:=fun x y H Q => ∃ l b xs zs,x = .ref l/\y = .ref b/\H l=some (.lst xs)/\H b=some (.lst zs)/\xs.length+zs.length<=sizeLine/\∀ p,H p=none->Q (.ref p) (upd H p (.lst (xs++zs)))
theorem Bc:jZ X (binaryOp .Add) qEO:=by
 intro pins s σ H x y v u Q I rx ry h;obtain⟨l,b,xs,zs,rfl,rfl,hH,hB,hz,q⟩:=h
 cases rx
 cases ry
 obtain⟨z,its,n,r,hl,e⟩:=I.IW hH;obtain⟨z2,its2,n2,r2,hl2,e2⟩:=I.IW hB;refine PySem.P.add_list e e2 ?_ (by rw[xf,xf];lia)
 have ea:its.toArray++its2.toArray=(its++its2).toArray:=by simp
 rw[ea];exact⟨.ref _,_,I.qF3 (t':=s.toks) (r.append r2) (by rw[dW];lia),rfl,q _ I.fresh⟩
theorem len_rep{α:Type}(xs:List α)(k:Nat):(List.replicate k xs).flatten.length=k*xs.length:=by
 induction k with
 | zero=>simp
 | succ k ih=>rw[List.replicate_succ,List.flatten_cons,dW,ih,Nat.succ_mul,Nat.add_comm]
end
section
variable{prog:Program}{w:World}{A:Around}{E:Value->Shared->Prop}{s:Shared}
end
section
variable{X:Cx}
end
end L2
namespace Att
open PySem PySem.W PySem.Calls PyProof.Rows
theorem uO{P:Params}{h:Heap}:∀(ns:List Int)(vs:List Value),WellAll P h vs (ns.map WData.int)->IntsAre vs ns:=by
 intro ns
 induction ns with
 | nil=>
  intro vs w;rw[List.map_nil]at w
  cases w
  exact .nil
 | cons n ns ih=>
  intro vs w;rw[List.map_cons]at w
  cases w with
  | cons a b=>
   cases a
   exact .cons _ _ (ih _ b)
theorem Lp{l:OpenLaw}{n:Nat}(hn:l.most=some n){P:Params}{h:Heap}{args:List WData}{vals:List Value}
  (hpre:l.row.toRowW.claim.pre args=true) (hwl:WellAll P h vals args) :
  ∃ a vs ns,vals=[Value.ref a]/\args=[WData.list (ns.map WData.int)]/\h.get? a=some { cls:=.type "list",data:=.seq vs.toArray }/\IntsAre vs ns/\ns.length<=n:=by
 have hsh:WShape.hasAll [] args [.list .int]=true:=(pre_splitW hpre).1;have hc:l.pre.holds [] { args:=args }=true:=(pre_splitW hpre).2;obtain⟨d,r,rfl,h1,h2⟩:=hasAllW_cons hsh;obtain rfl:=hasAllW_nil h2;obtain⟨xs,rfl,h3⟩:=hasW_list h1;obtain⟨ns,rfl⟩:=items_int h3
 have hlen:ns.length<=n:=by
  unfold OpenLaw.pre at hc
  have h4:(WTm.not (.lt (.lit (.int (n:Int))) (.len (.arg 0)))).holds [] { args:=[.list (ns.map .int)] }=true:=by
   have h4:=(holds_andW hc).1;rw[hn]at h4;exact h4
  have h5:=condW_of h4 (w_not (w_lt w_lit (w_len_list (w_arg rfl))));rw[bZ]at h5;refine Nat.le_of_not_lt fun q=>?_
  have q':(n:Int)<((ns.length:Nat):Int):=by lia
  first
   | (rw[decide_eq_true q']at h5;exact absurd h5 (by decide))
   | (simp at h5;lia)
 cases hwl with
 | cons w1 w2=>
  cases w2
  cases w1 with
  | list ho hall=>exact⟨_,_,ns,rfl,rfl,ho,uO ns _ hall,hlen⟩
theorem M3(l:OpenLaw)(args:List WData):l.row.toRowW.claim.post args (.bool true) args=true:=
 postW_of (r:=l.row.toRowW) (X:=(true==true))
  (show WShape.has [] (.bool true) .bool=true by first | rfl | decide | simp [WShape.has,WShape.arms,WShape.armsAll])
  (show (WTm.eq .res (.lit (.bool true))).value [] { args:=args,res:=some (.bool true),after:=args }=some (.bool (true==true)) from w_eq_bool (w_res rfl) w_lit) rfl
theorem Fq{l:OpenLaw}{n:Nat}{q:Program}{loose:List Str}{XP:(Str->Option Value)->Heap->Prop}{YP:World->Heap->Prop}{d:DefRec}
  (hn:l.most=some n) (hdf:d.params.defaults=[])
  (call:∀(w:World)(s₀ s₁:Shared)(mg mb:Str->Option Value)(fa:Addr)(o:Obj)(pm cd doc:Value)(a:Addr)(vs:List Value)(ns:List Int),
   Ground q loose [] XP w s₀ mg mb s₁.heap->YP w s₁.heap →
   s₁.heap.get? fa=some o->o.data = .func (docDef d.name d.params d.body d.scope pm cd doc)->s₁.heap.CodeRec cd d.name->mg d.name=some (.ref fa) →
   s₁.heap.get? a=some { cls:=.type "list",data:=.seq vs.toArray }->IntsAre vs ns->ns.length<=n->s₁.gens = #[] →
   codeAny (model l.prog w) callerA (.call (.ref fa) ⟨[.ref a],[]⟩) (fun r s'=>r = .ok (.ret (.bool true))/\OldK s₁.heap s'.heap/\s'.os=s₁.os/\AllBare s'.gens) s₁) :
  WalkO q loose XP YP l.row.toRowW d [] (fun f vs=>PySem.call f vs):=by
 intro w s₀ s₁ mg mb G Y fa o pm cd doc dV kV ho hd hcd hD hmg hg args vals as hpre hlay hrd hwl hlo;obtain rfl:dV = .none:=Dflts.none hD hdf;obtain rfl:kV = .none:=Dflts.noKw hD;obtain⟨a,vs,ns,rfl,rfl,hobj,hints,hlen⟩:=Lp hn hpre hwl;refine enter_call (codeAny_mono (call w s₀ s₁ mg mb fa o pm cd doc a vs ns G Y ho (fd_plain hd) hcd hmg hobj hints hlen hg) fun r s' hq=>?_);obtain⟨rfl,h2,h3,h4⟩:=hq;exact⟨.inl ⟨.bool true,.bool true,[],rfl,fun _=>rfl,.bool true,M3 l _,fun _=>⟨List.Pairwise.nil,fun _ hm=>(nomatch hm)⟩⟩,h2,h3,h4⟩
section
variable{prog:Program}{w:World}{A:Around}{E:Value->Shared->Prop}{s:Shared}{K:Frag}
end
end Att
namespace L2
open PySem PySem.Spec PyProof.Rows
theorem jf:∀ {vs:List Value} {ns:List Int},IntsAre vs ns->Vals (ns.map V.int) vs
 | _,_,.nil=>.nil
 | _,_,.cons n t h=>.cons ⟨t,rfl⟩ (jf h)
noncomputable def Only(H:Hp):Prop:=∀ b,H b=none ∨ ∃ o xs,H b=some (.Im o (.lst xs))
theorem law_call{P:Program}{w:World}{K:bO}{mg mb:Str->Option Value}{CX:Ge}{k:Nat}{fa a:Addr}{fd:FuncData}{x:Str}{sp:Sp}{s₁:Shared}{vs:List Value}{ns:List Int}
  (KX:K.In s₁.heap) (hns:s₁.heap.Ns mainGlobals mg) (hb:s₁.heap.Ns builtinsNs mb) (hbb:∀ x:Str,x ≠ "__name__" -> mb x=bootBuiltins x) (hlim:s₁.heap.NoLimit) (hg:s₁.gens = #[])
  (ha:s₁.heap.get? a=some { cls:=.type "list",data:=.seq vs.toArray }) (hi:IntsAre vs ns) (hl:ns.length<=sizeLine) (hr:eF k callerA)
  (F:∀ base:Heap,K.In base->base.Ns mainGlobals mg->aM P w K mg base CX k fa fd [x] sp) (hbind:∀(s:Shared)(u:Value),BindsTo s fd ⟨[u],[]⟩ [(x,u)])
  (hsp:∀ H:Hp,Only H->aQ K H a (ns.map V.int)->sp [.ref a] H (fun v _=>v = .bl true) fun _ _ _=>False)
  (hCX:∀ H e s',CX [] H s₁ (fun _ _ _=>False) e s'->False) :
  codeAny (model P w) callerA (.call (.ref fa) ⟨[.ref a],[]⟩) (fun r s'=>r = .ok (.ret (.bool true))/\OldK s₁.heap s'.heap/\s'.os=s₁.os/\AllBare s'.gens) s₁:=by
 have rv:=jf hi;have lenV:=hi.length;have core:∀ H:Hp,Only H->aQ K H a (ns.map V.int)->j6 P w H s₁.heap->(∀ b,H b≠none->b=a)->(H a≠none->K.lookup a=none) →
   codeAny (model P w) callerA (.call (.ref fa) ⟨[.ref a],[]⟩) (fun r s'=>r = .ok (.ret (.bool true))/\OldK s₁.heap s'.heap/\s'.os=s₁.os/\AllBare s'.gens) s₁:=by
  intro H hO hS hok hA hK;have Ld:∀ {b:Addr} {o:Obj},s₁.heap.get? b=some o->H b=none->(Bq s₁.heap H).get? b=some o:=fun e n=>RD e n
  have noA:∀ {b:Addr} {o:Obj} {es:Array DictEntry} {ep:Nat},s₁.heap.get? b=some o->o.data = .dict es ep->H b=none:=fun {b o es ep} e d=>by
   cases q:H b with
   | none=>rfl
   | some u=>
    have e':b=a:=hA b (by rw[q];simp);subst e';rw[ha]at e;cases e;have d':Data.seq vs.toArray _=Data.dict es ep:=d
    cases d'
  have nsK:∀ {b:Addr} {m:Str->Option Value},s₁.heap.Ns b m->(Bq s₁.heap H).Ns b m:=fun {b m} ⟨o,es,ep,e,d,r⟩=>⟨o,es,ep,Ld e (noA e d),d,r⟩
  have hKb:K.In (Bq s₁.heap H):=fun b o e=>Ld (KX b o e) (by
   cases q:H b with
   | none=>rfl
   | some u=>
    have e':b=a:=hA b (by rw[q];simp);subst e'
    rw[hK (by rw[q];simp)]at e;cases e)
  have hM:Mod K mg (Bq s₁.heap H):=⟨hKb,nsK hns,⟨mb,nsK hb,hbb⟩,let ⟨mc,h1,h2⟩:=hlim;⟨mc,nsK h1,h2⟩⟩;have e0:JP P w K mg (Bq s₁.heap H) callerA [] s₁ H:=⟨rfl,hM,fun b o e=>VG e,Nat.le_of_eq (Mv _ _),trivial,fun b hb=>absurd (show b∈([]:List Addr) from hb) (by simp),hok,.of_eq hg⟩;refine codeAny_mono ((F _ hKb (nsK hns)).run callerA [] s₁ H ⟨[.ref a],[]⟩ [.ref a] [.ref a] _ _ hr e0 (hbind s₁ (.ref a)) (.cons rfl .nil) (hsp H hO hS)) fun r s' h=>?_
  cases r with
  | error e=>exact (hCX H e s' h).elim
  | ok fl=>
   cases fl with
   | next=>exact False.elim h
   | brk=>exact False.elim h
   | cont=>exact False.elim h
   | ret u=>
    obtain⟨v,H',os,bare,un,hok',r',q⟩:=h;have q':v = .bl true:=q;subst q';obtain rfl:u=Value.bool true:=r';refine⟨rfl,OldK.of_keep fun b o e=>?_,os,bare⟩
    cases q:H b with
    | none=>exact un.keep b o e q (by intro z;exact absurd (show b∈([]:List Addr) from z) (by simp)) (by simp)
    | some u=>
     rcases hO b with z | ⟨ob,xs,z⟩
     ·rw[q]at z;cases z
     ·have z2:=un.tH b ob _ z;obtain⟨e1,_⟩:=hok b _ z;obtain⟨e2,_⟩:=hok' b _ z2;rw[e]at e1;cases e1;exact e2
 cases hk:K.lookup a with
 | some o=>
  have e:=KX a o hk;rw[ha]at e
  cases e
  refine core (fun _=>none) (fun _=>.inl rfl) (.inr ⟨_,vs.toArray,_,hk,rfl,rfl,rfl,by rw[List.size_toArray,lenV];exact hl,by simpa using rv⟩) (fun b u z=>by have z':(none:Option HO)=some u:=z;cases z') (fun b z=>absurd rfl z) fun z=>absurd rfl z
 | none=>
  refine core (fun b=>if b=a then some (.Im { cls:=.type "list",data:=.seq vs.toArray } (.lst (ns.map V.int))) else none) (fun b=>?_) (.inl (.inr ⟨{ cls:=.type "list",data:=.seq vs.toArray },if_pos rfl⟩)) (fun b u z=>?_) (fun b z=>?_) fun _=>hk
  ·by_cases hb:b=a
   ·exact .inr ⟨_,_,if_pos hb⟩
   ·exact .inl (if_neg hb)
  ·by_cases hb:b=a
   ·have z':=(if_pos hb).symm.trans z
    cases z'
    subst hb;exact⟨ha,by rw[bZ];exact hl,vs,_,rv,ha⟩
   ·have z':=(if_neg hb).symm.trans z
    cases z'
  ·by_cases hb:b=a
   ·exact hb
   ·exact absurd (if_neg hb) z
theorem Ti{l:PySem.W.OpenLaw}{n k:Nat}{q:Program}{loose:List Str}{XP:(Str->Option Value)->Heap->Prop}{YP:World->Heap->Prop}{d:DefRec}{K:Params->bO}{CX:World->Ge}{sp:World->Sp}{x:Str}
  (hn:l.most=some n) (hn2:n<=sizeLine) (hdf:d.params.defaults=[]) (hr:eF k callerA)
  (hY:∀(w:World)(h:Heap),YP w h->(K w.params).In h)
  (F:∀(w:World)(mg:Str->Option Value)(fa:Addr)(h:Heap),(K w.params).In h->h.Ns mainGlobals mg->mg d.name=some (.ref fa) →
   ∃ fd:FuncData,(∀(s:Shared)(u:Value),BindsTo s fd ⟨[u],[]⟩ [(x,u)]) ∧
    ∀ base:Heap,(K w.params).In base->base.Ns mainGlobals mg->aM l.prog w (K w.params) mg base (CX w) k fa fd [x] (sp w))
  (hsp:∀(w:World)(H:Hp)(a:Addr)(ns:List Int),ns.length<=n->Only H->aQ (K w.params) H a (ns.map V.int)->sp w [.ref a] H (fun v _=>v = .bl true) fun _ _ _=>False)
  (hCX:∀(w:World)(H:Hp)(s:Shared)(e:Value)(s':Shared),CX w [] H s (fun _ _ _=>False) e s'->False) :
  PySem.W.WalkO q loose XP YP l.row.toRowW d [] (fun f vs=>PySem.call f vs):=by
 refine Att.Fq hn hdf fun w s₀ s₁ mg mb fa o pm cd doc a vs ns G Y ho hd hcd hmg hobj hints hlen hg=>?_;have KX:=hY w _ Y;obtain⟨fd,hb,hF⟩:=F w mg fa _ KX G.T.g hmg;exact law_call KX G.T.g G.T.b G.T.builtins G.T.nolimit hg hobj hints (Nat.le_trans hlen hn2) hr hF hb (fun H hO hS=>hsp w H a ns hlen hO hS) fun H e s'=>hCX w H s₁ e s'
noncomputable def inClass(s:Stmt)(j:Nat):Stmt:=match s with
 | .ClassDef _ _ _ body _ _ _ _ _ _ _=>body.getD j (.Pass ⟨0,0,0,0⟩)
 | _=>.Pass ⟨0,0,0,0⟩
noncomputable def oJ(s:Stmt):Arguments:=match s with
 | .FunctionDef _ a _ _ _ _ _ _ _ _=>a
 | _=>{ posonlyargs:=[],args:=[],vararg:=none,kwonlyargs:=[],kw_defaults:=[],kwarg:=none,defaults:=[] }
noncomputable def iH(s:Stmt):List Stmt:=match s with
 | .FunctionDef _ _ b _ _ _ _ _ _ _=>b
 | _=>[]
noncomputable def aB(s:Stmt):Scope:=match s with
 | .FunctionDef _ _ _ _ _ _ sc _ _ _=>sc
 | _=>{ kind:=.function,names:=[],isGenerator:=false,isCoroutine:=false }
noncomputable abbrev aW:Ge:=fun _ _ _ _ _ _=>False
noncomputable abbrev E0:XK:=fun _ _ _=>False
theorem yE{X:Cx}:Passes aW X E0:=fun _ _ _ _ _ _ _ h=>h.elim
structure cY(K:bO)(x qual:Str)(st:Stmt)(f:Addr)(fd:FuncData):Prop where
 ex:∃(oc:Value)(od:Option Addr)(kV doc pm:Value)(an:Option Addr)(cdv ct:Value)(osl:Array (Option Value)),
  fd=PySem.W.fnOf x qual (oJ st) (iH st) (aB st) .none kV doc pm an cdv ct/\K.lookup f=some ⟨oc,od,.func fd,osl⟩/\PySem.W.codeIn K cdv qual=true
 kp:KI K f
section
variable{P:Program}{w:World}{K:bO}{mg:Str->Option Value}{base:Heap}
theorem cY.ok{x qual:Str}{st:Stmt}{f:Addr}{fd:FuncData}{N ps:List Str}{k:Nat}{sp:Sp}(F:cY K x qual st f fd)(S:aH N ps (aB st))(len:∀ vs H Q E,sp vs H Q E->vs.length=ps.length)
  (hbody:∀(cdv:Value)(A:Around)(outer:List Env)(s:Shared)(H:Hp)(vs:List V)(Q:VK)(E:XK),eF k (A.deeper (envOfC qual (aB st) s.heap.objs.size f cdv))->sp vs H Q E →
   ∃ t,Ac (oU aW P w K mg base N qual (aB st) f cdv A outer s H E).ZS (iH st) t/\t { nx:=fun _ H'=>Q .non H',rt:=Q } (start N vs) H):aM P w K mg base aW (k+1) f fd ps sp:=by
 obtain⟨oc,od,kV,doc,pm,an,cdv,ct,osl,rfl,lk,hcd⟩:=F.ex;refine Wg lk hcd S len fun A outer s H vs Q E hr hsp=>?_;obtain⟨t,h,q⟩:=hbody cdv A outer s H vs Q E hr hsp;exact⟨t,h.ZS,q⟩
theorem cY.binds{x qual:Str}{st:Stmt}{f:Addr}{fd:FuncData}{ps:List Str}(F:cY K x qual st f fd)
  (h:∀(kV doc pm:Value)(an:Option Addr)(cdv ct:Value)(us:List Value),us.length=ps.length->bindArgs (PySem.W.fnOf x qual (oJ st) (iH st) (aB st) .none kV doc pm an cdv ct) ⟨us,[]⟩=pure (ps.zip us)):Binds K fd ps []:=by
 obtain⟨oc,od,kV,doc,pm,an,cdv,ct,osl,rfl,lk,hcd⟩:=F.ex;exact .all (h kV doc pm an cdv ct)
theorem Yq{x qual:Str}{st:Stmt}{f:Addr}{oc:Value}{od an:Option Addr}{osl:Array (Option Value)}{kV doc pm cdv ct:Value}(l:K.lookup f=some ⟨oc,od,.func (PySem.W.fnOf x qual (oJ st) (iH st) (aB st) .none kV doc pm an cdv ct),osl⟩)
  (c:PySem.W.codeIn K cdv qual=true) (k:KI K f):cY K x qual st f (PySem.W.fnOf x qual (oJ st) (iH st) (aB st) .none kV doc pm an cdv ct):=⟨⟨oc,od,kV,doc,pm,an,cdv,ct,osl,rfl,l,c⟩,k⟩
end
theorem zV{n:Nat}(h:n<=1000):n<sizeLine:=Nat.lt_of_le_of_lt h (by decide)
section
variable{X:Cx}
theorem pv(i:Nat){x:Str}{pos:Pos}(hN:X.N[i]? = some x:=by rfl)(hv:Vis X.env.scope x:=by first | exact Or.inl rfl | exact Or.inr (Or.inl rfl) | exact Or.inr (Or.inr rfl))(hd:(x==("__debug__" : Str))=false:=by decide)
  (hcd:(x==("__classdict__" : Str))=false:=by decide):PE X (.Name x pos) (Cz i):=Xe hN hv hd hcd
end
theorem oR{c A B:Prop} [Decidable c] (h1:c->A) (h2:¬ c->B):if c then A else B:=by
 by_cases h:c
 ·rw[if_pos h];exact h1 h
 ·rw[if_neg h];exact h2 h
noncomputable def aG(H H':Hp):Prop:=∀ b o,H b=some o->H' b=some o
theorem aG.refl(H:Hp):aG H H:=fun _ _ h=>h
theorem aG.trans{H H1 H2:Hp}(a:aG H H1)(b:aG H1 H2):aG H H2:=fun c o h=>b c o (a c o h)
theorem aG.free{H H':Hp}(e:aG H H'){l:Addr}(h:H' l=Option.none):H l=Option.none:=by
 cases q:H l with
 | none=>rfl
 | some o=>
  rw[e l o q]at h
  cases h
theorem aG.seq{K:bO}{H H':Hp}{a:Addr}{xs:List V}(e:aG H H')(h:aQ K H a xs):aQ K H' a xs:=by
 rcases h with (h | ⟨o,h⟩) | h
 ·exact .inl (.inl (e _ _ h))
 ·exact .inl (.inr ⟨o,e _ _ h⟩)
 ·exact .inr h
end L2
set_option maxHeartbeats 4000000
namespace L2
theorem aJ{T:Prop}(h:∀ G:Prop,(T->G)->G):T:=h T id
theorem aF{K:bO}{H:Hp}{p:PySem.Addr}{xs:List V}{i:Int}{v:V}{Z:V->Prop}(h1:aK K H p xs)(h2:uQ xs i=some v)(h3:Z v):∃ p' xs' i' v',V.ref p = .ref p'/\V.int i = .int i'/\aK K H p' xs'/\uQ xs' i'=some v'/\Z v':=⟨p,xs,i,v,rfl,rfl,h1,h2,h3⟩
theorem bY{K:bO}{H:Hp}{p:PySem.Addr}{xs:List V}{i:Int}{v:V}{Z:V->Prop}(h1:aQ K H p xs)(h2:uQ xs i=some v)(h3:Z v):∃ p' xs' i' v',V.ref p = .ref p'/\V.int i = .int i'/\aQ K H p' xs'/\uQ xs' i'=some v'/\Z v':=⟨p,xs,i,v,rfl,rfl,h1,h2,h3⟩
theorem iZ{p:PySem.Addr}{xs:List V}{E:PySem.Addr->Prop}{D:PySem.Addr->List V->Prop}{Z:PySem.Addr->List V->Prop}(e:E p)(d:D p xs)(z:Z p xs):∃ p' xs',E p'/\D p' xs'/\Z p' xs':=⟨p,xs,e,d,z⟩
theorem aq{i j:Int}{P:Int->Int->Prop}(h:P i j):∃ i' j',V.int i = .int i'/\V.int j = .int j'/\P i' j':=⟨i,j,rfl,rfl,h⟩
end L2
namespace pQ
open PySem L2
noncomputable def top(i:Nat):Stmt:=PySem.Challenge.pw_nesthall_k50_whole_never_met.main.body.getD i (.Pass ⟨0,0,0,0⟩)
noncomputable abbrev uZ:Stmt:=top 1
noncomputable abbrev BZ:Stmt:=top 2
noncomputable abbrev Df:Stmt:=top 3
noncomputable abbrev uc:Stmt:=top 4
noncomputable abbrev nY:Stmt:=top 5
noncomputable abbrev vR:Stmt:=top 7
noncomputable abbrev Ju:Stmt:=top 8
noncomputable abbrev sIn:Stmt:=top 9
noncomputable abbrev Pn:Stmt:=top 10
noncomputable abbrev qR:Stmt:=top 14
noncomputable abbrev nW:Stmt:=top 15
noncomputable abbrev Jx:Stmt:=top 16
noncomputable abbrev mO:Stmt:=top 18
noncomputable abbrev qT:Stmt:=top 20
noncomputable abbrev jm:Stmt:=top 21
noncomputable abbrev qQ:Stmt:=top 22
noncomputable abbrev qP:Stmt:=top 23
noncomputable abbrev vP:Stmt:=top 25
noncomputable abbrev ud:Stmt:=top 26
noncomputable abbrev qO:Stmt:=top 27
noncomputable abbrev vQ:Stmt:=top 28
noncomputable abbrev iV:Stmt:=top 30
noncomputable abbrev iU:Stmt:=top 31
noncomputable abbrev fj:Stmt:=top 32
noncomputable abbrev nQ:Stmt:=top 33
noncomputable abbrev mL:Stmt:=top 34
noncomputable abbrev eY:Stmt:=top 35
noncomputable abbrev BK:Stmt:=top 36
noncomputable abbrev mK:Stmt:=top 38
noncomputable abbrev qI:Stmt:=top 39
noncomputable abbrev uW:Stmt:=top 40
noncomputable abbrev vN:Stmt:=top 41
noncomputable abbrev BP:Stmt:=top 47
noncomputable abbrev vO:Stmt:=top 48
noncomputable abbrev BL:Stmt:=top 50
noncomputable abbrev sS:Stmt:=top 51
noncomputable abbrev Jy:Stmt:=top 53
noncomputable abbrev BX:Stmt:=top 54
noncomputable abbrev qK:Stmt:=top 55
noncomputable abbrev qM:Stmt:=top 56
noncomputable abbrev nU:Stmt:=top 57
noncomputable abbrev iI:Stmt:=top 58
noncomputable abbrev km:Stmt:=top 59
noncomputable abbrev BW:Stmt:=top 60
noncomputable abbrev jj:Stmt:=top 61
noncomputable abbrev jl:Stmt:=top 62
noncomputable abbrev nT:Stmt:=top 63
noncomputable abbrev qJ:Stmt:=top 64
noncomputable abbrev uX:Stmt:=top 65
noncomputable abbrev uY:Stmt:=top 66
noncomputable abbrev nR:Stmt:=top 67
noncomputable abbrev qL:Stmt:=top 68
noncomputable abbrev tZ:Stmt:=top 69
noncomputable abbrev Jv:Stmt:=inClass (top 12) 0
noncomputable abbrev U8:Stmt:=inClass (top 12) 1
noncomputable abbrev BV:Stmt:=inClass (top 12) 2
noncomputable abbrev qN:Stmt:=inClass (top 12) 3
noncomputable abbrev eZ:Stmt:=inClass (top 44) 0
noncomputable abbrev iC:Stmt:=inClass (top 46) 0
noncomputable abbrev fB:Stmt:=inClass (top 46) 1
noncomputable abbrev qAO:Str := "_law_near"
end pQ
namespace Aa
open PySem L2 pQ
noncomputable def du(x q:Str)(st:Stmt)(pm cd:Value):FuncData:=PySem.W.fnOf x q (oJ st) (iH st) (aB st) .none .none .none pm none cd .none
noncomputable def eE(d:FuncData):Obj:=⟨.type "function",none,.func d,#[]⟩
noncomputable def fd1:FuncData:=du "_law_cell_at" "_law_cell_at" Jy (.str "law_nesthall_k50_whole_never_met" 666) (.ref 340)
noncomputable def fd2:FuncData:=du "_law_mixed" "_law_mixed" BX (.str "law_nesthall_k50_whole_never_met" 666) (.ref 347)
noncomputable def fd3:FuncData:=du "holds" "holds" mO (.str "nesthall.guards" 362) (.ref 140)
noncomputable def fd4:FuncData:=du "answers" "answers" qT (.str "nesthall.doors" 374) (.ref 147)
noncomputable def fd5:FuncData:=du "end_of" "end_of" BZ (.str "nesthall.nesting" 187) (.ref 27)
noncomputable def fd6:FuncData:=du "parent" "parent" uZ (.str "nesthall.nesting" 187) (.ref 20)
noncomputable def fd7:FuncData:=du "lies_in" "lies_in" uc (.str "nesthall.nesting" 187) (.ref 39)
noncomputable def fd8:FuncData:=du "hall_over" "hall_over" nY (.str "nesthall.nesting" 187) (.ref 46)
noncomputable def fd9:FuncData:=du "kids" "kids" Df (.str "nesthall.nesting" 187) (.ref 32)
noncomputable def qDH:FuncData:=du "bears_goal" "bears_goal" vR (.str "nesthall.goings" 234) (.ref 51)
noncomputable def qDG:FuncData:=du "next_in" "next_in" Ju (.str "nesthall.goings" 234) (.ref 58)
noncomputable def qDF:FuncData:=du "goings_in" "goings_in" sIn (.str "nesthall.goings" 234) (.ref 65)
noncomputable def qDE:FuncData:=du "goings_out" "goings_out" Pn (.str "nesthall.goings" 234) (.ref 70)
noncomputable def qDD:FuncData:=du "plain_ones" "plain_ones" vP (.str "nesthall.stands" 413) (.ref 169)
noncomputable def qDC:FuncData:=du "kept_of" "kept_of" ud (.str "nesthall.stands" 413) (.ref 176)
noncomputable def qDB:FuncData:=du "keeping" "keeping" qO (.str "nesthall.stands" 413) (.ref 183)
noncomputable def qDA:FuncData:=du "is_outdone" "is_outdone" jm (.str "nesthall.doors" 374) (.ref 152)
noncomputable def qD9:FuncData:=du "chosen" "chosen" qQ (.str "nesthall.doors" 374) (.ref 157)
noncomputable def qD8:FuncData:=du "changed" "changed" qR (.str "nesthall.deeds" 325) (.ref 119)
noncomputable def qD7:FuncData:=du "recorded" "recorded" nW (.str "nesthall.deeds" 325) (.ref 126)
noncomputable def qD6:FuncData:=du "done" "done" Jx (.str "nesthall.deeds" 325) (.ref 133)
noncomputable def qD5:FuncData:=du "sizes_of" "sizes_of" iV (.str "nesthall.passing" 449) (.ref 193)
noncomputable def qD4:FuncData:=du "rooms_left" "rooms_left" eY (.str "nesthall.passing" 449) (.ref 220)
noncomputable def qD3:FuncData:=du "steps_in" "steps_in" iU (.str "nesthall.passing" 449) (.ref 198)
noncomputable def qD2:FuncData:=du "steps_out" "steps_out" fj (.str "nesthall.passing" 449) (.ref 203)
noncomputable def qD1:FuncData:=du "stepped" "stepped" nQ (.str "nesthall.passing" 449) (.ref 210)
noncomputable def qD0:FuncData:=du "goals_of" "goals_of" qP (.str "nesthall.doors" 374) (.ref 164)
noncomputable def qCZ:FuncData:=du "passed" "passed" mL (.str "nesthall.passing" 449) (.ref 215)
noncomputable def qCY:FuncData:=du "turn" "turn" BK (.str "nesthall.passing" 449) (.ref 227)
noncomputable def qCX:FuncData:=du "rested" "rested" mK (.str "nesthall.runs" 511) (.ref 232)
noncomputable def qCW:FuncData:=du "begun" "begun" qI (.str "nesthall.runs" 511) (.ref 237)
noncomputable def qCV:FuncData:=du "after" "after" uW (.str "nesthall.runs" 511) (.ref 244)
noncomputable def qCU:FuncData:=du "said" "said" vN (.str "nesthall.runs" 511) (.ref 249)
noncomputable def qCT:FuncData:=du "lamps" "lamps" vQ (.str "nesthall.stands" 413) (.ref 188)
noncomputable def qCS:FuncData:=du "move" "move" BP (.str "nesthall.tables" 587) (.ref 316)
noncomputable def qCR:FuncData:=du "flat" "flat" vO (.str "nesthall.tables" 587) (.ref 321)
noncomputable def qCQ:FuncData:=du "note" "note" BL (.str "nesthall.sights" 648) (.ref 328)
noncomputable def qCP:FuncData:=du "seen" "seen" sS (.str "nesthall.sights" 648) (.ref 333)
noncomputable def qCO:FuncData:=du "_law_name" "_law_name" qK (.str "law_nesthall_k50_whole_never_met" 666) (.ref 354)
noncomputable def qCN:FuncData:=du "_law_deed" "_law_deed" qM (.str "law_nesthall_k50_whole_never_met" 666) (.ref 361)
noncomputable def qCM:FuncData:=du "_law_deeds" "_law_deeds" nU (.str "law_nesthall_k50_whole_never_met" 666) (.ref 368)
noncomputable def qCL:FuncData:=du "_law_guard" "_law_guard" iI (.str "law_nesthall_k50_whole_never_met" 666) (.ref 375)
noncomputable def qCK:FuncData:=du "_law_depths" "_law_depths" km (.str "law_nesthall_k50_whole_never_met" 666) (.ref 382)
noncomputable def qCJ:FuncData:=du "_law_rooms" "_law_rooms" BW (.str "law_nesthall_k50_whole_never_met" 666) (.ref 389)
noncomputable def qCI:FuncData:=du "_law_doors" "_law_doors" jj (.str "law_nesthall_k50_whole_never_met" 666) (.ref 394)
noncomputable def qCH:FuncData:=du "_law_chart" "_law_chart" jl (.str "law_nesthall_k50_whole_never_met" 666) (.ref 399)
noncomputable def qCG:FuncData:=du "_law_place" "_law_place" nT (.str "law_nesthall_k50_whole_never_met" 666) (.ref 406)
noncomputable def qCF:FuncData:=du "_law_runs" "_law_runs" qJ (.str "law_nesthall_k50_whole_never_met" 666) (.ref 413)
noncomputable def qCE:FuncData:=du "_law_met" "_law_met" uX (.str "law_nesthall_k50_whole_never_met" 666) (.ref 420)
noncomputable def qCD:FuncData:=du "_law_led" "_law_led" uY (.str "law_nesthall_k50_whole_never_met" 666) (.ref 427)
noncomputable def qCC:FuncData:=du "_law_unmet" "_law_unmet" nR (.str "law_nesthall_k50_whole_never_met" 666) (.ref 434)
noncomputable def qCB:FuncData:=du "_law_good" "_law_good" qL (.str "law_nesthall_k50_whole_never_met" 666) (.ref 441)
noncomputable def Vj:FuncData:=du "law" "law" tZ (.str "law_nesthall_k50_whole_never_met" 666) (.ref 448)
noncomputable def Rb:FuncData:=du "__init__" "Letters.__init__" Jv (.str "nesthall.letters" 271) (.ref 84)
noncomputable def Ra:FuncData:=du "add" "Letters.add" U8 (.str "nesthall.letters" 271) (.ref 91)
noncomputable def RZ:FuncData:=du "taken" "Letters.taken" BV (.str "nesthall.letters" 271) (.ref 98)
noncomputable def RX:FuncData:=du "waiting" "Letters.waiting" qN (.str "nesthall.letters" 271) (.ref 105)
noncomputable def RW:FuncData:=du "__init__" "Finds.__init__" iC (.str "nesthall.tables" 587) (.ref 295)
noncomputable def RV:FuncData:=du "row_of" "Finds.row_of" fB (.str "nesthall.tables" 587) (.ref 302)
noncomputable def RT:FuncData:=du "__init__" "TooWide.__init__" eZ (.str "nesthall.errors" 542) (.ref 276)
noncomputable def kE(P:Params)(x:Str)(n:Nat)(v:Value):DictEntry:=⟨PyData.keyHash P x,.str x n,v⟩
noncomputable def cO(x q:Str)(a:Nat)(l n:Int)(r:Nat)(k:Int):Obj:=⟨.type "code",none,.fields #[.str x a,.str q (a+1),.str "/claim/cut.py" (a+2),.int l 0,.int n 0,.int 0 0,.int 0 0,.int 3 0,.ref r,.bool true,.int 181 0,.ref (r+1),.none,.ref (r+2),.ref (r+3),.ref (r+4),.int k 0,.int l 0,.str "/claim/cut.py" (k.toNat+1)],#[]⟩
noncomputable def cN(x q:Str)(a:Nat)(l n:Int)(r:Nat)(k:Int):Obj:=⟨.type "code",none,.fields #[.str x a,.str q (a+1),.str "/claim/cut.py" (a+2),.int l 0,.int n 0,.int 0 0,.int 0 0,.int 3 0,.ref r,.bool true,.int 181 0,.ref (r+1),.none,.none,.none,.ref (r+2),.int k 0,.int l 0,.str "/claim/cut.py" (k.toNat+1)],#[]⟩
noncomputable def KO(P:Params):bO:=[
 (3,⟨.type "dict",none,.dict #[kE P "__name__" 165 (.str "law_nesthall_k50_whole_never_met" 666),kE P "__doc__" 166 .none,kE P "__package__" 167 .none,kE P "__loader__" 168 (.builtin "__main__.__loader__#opaque"),kE P "__spec__" 169 .none,kE P "__annotations__" 170 (.ref 6),kE P "__builtins__" 171 (.ref 4),kE P "__file__" 173 (.str "/claim/cut.py" 172),kE P "__cached__" 174 .none,kE P "parent" 198 (.ref 21),kE P "end_of" 208 (.ref 28),kE P "kids" 214 (.ref 33),kE P "lies_in" 223 (.ref 40),kE P "hall_over" 233 (.ref 47),kE P "bears_goal" 241 (.ref 52),kE P "next_in" 252 (.ref 59),kE P "goings_in" 264 (.ref 66),kE P "goings_out" 270 (.ref 71),kE P "Letters" 324 (.ref 109),kE P "changed" 338 (.ref 120),kE P "recorded" 348 (.ref 127),kE P "done" 361 (.ref 134),kE P "holds" 373 (.ref 141),kE P "answers" 389 (.ref 148),kE P "is_outdone" 395 (.ref 153),kE P "chosen" 401 (.ref 158),kE P "goals_of" 412 (.ref 165),kE P "plain_ones" 420 (.ref 170),kE P "kept_of" 430 (.ref 177),kE P "keeping" 442 (.ref 184),kE P "lamps" 448 (.ref 189),kE P "sizes_of" 456 (.ref 194),kE P "steps_in" 462 (.ref 199),kE P "steps_out" 468 (.ref 204),kE P "stepped" 483 (.ref 211),kE P "passed" 489 (.ref 216),kE P "rooms_left" 495 (.ref 221),kE P "turn" 510 (.ref 228),kE P "rested" 518 (.ref 233),kE P "begun" 524 (.ref 238),kE P "after" 535 (.ref 245),kE P "said" 541 (.ref 250),kE P "NestError" 561 (.ref 260),kE P "TooWide" 586 (.ref 280),kE P "Finds" 630 (.ref 306),kE P "move" 641 (.ref 317),kE P "flat" 647 (.ref 322),kE P "note" 659 (.ref 329),kE P "seen" 665 (.ref 334),kE P "_law_cell_at" 675 (.ref 341),kE P "_law_mixed" 687 (.ref 348),kE P "_law_name" 697 (.ref 355),kE P "_law_deed" 709 (.ref 362),kE P "_law_deeds" 724 (.ref 369),kE P "_law_guard" 736 (.ref 376),kE P "_law_depths" 746 (.ref 383),kE P "_law_rooms" 764 (.ref 390),kE P "_law_doors" 770 (.ref 395),kE P "_law_chart" 776 (.ref 400),kE P "_law_place" 785 (.ref 407),kE P "_law_runs" 799 (.ref 414),kE P "_law_met" 809 (.ref 421),kE P "_law_led" 823 (.ref 428),kE P "_law_unmet" 835 (.ref 435),kE P "_law_good" 848 (.ref 442),kE P "law" 862 (.ref 449)] 66,#[]⟩),
 (340,cO "_law_cell_at" "_law_cell_at" 668 288 2 335 673),
 (341,eE fd1),
 (347,cO "_law_mixed" "_law_mixed" 676 292 3 342 685),
 (348,eE fd2),
 (140,cO "holds" "holds" 364 96 3 135 371),
 (141,eE fd3),
 (147,cO "answers" "answers" 376 112 3 142 387),
 (148,eE fd4),
 (27,cO "end_of" "end_of" 199 8 2 22 206),
 (28,eE fd5),
 (20,cO "parent" "parent" 189 2 2 15 196),
 (21,eE fd6),
 (39,cO "lies_in" "lies_in" 215 17 3 34 221),
 (40,eE fd7),
 (46,cO "hall_over" "hall_over" 224 19 3 41 231),
 (47,eE fd8),
 (32,cN "kids" "kids" 209 14 2 29 212),
 (33,eE fd9),
 (51,cN "bears_goal" "bears_goal" 236 27 3 48 239),
 (52,eE qDH),
 (58,cO "next_in" "next_in" 242 30 3 53 250),
 (59,eE qDG),
 (65,cO "goings_in" "goings_in" 253 38 3 60 262),
 (66,eE qDF),
 (70,cN "goings_out" "goings_out" 265 46 3 67 268),
 (71,eE qDE),
 (169,cN "plain_ones" "plain_ones" 415 138 2 166 418),
 (170,eE qDD),
 (176,cO "kept_of" "kept_of" 421 140 3 171 428),
 (177,eE qDC),
 (183,cO "keeping" "keeping" 431 145 4 178 440),
 (184,eE qDB),
 (152,cN "is_outdone" "is_outdone" 390 120 3 149 393),
 (153,eE qDA),
 (157,cN "chosen" "chosen" 396 125 3 154 399),
 (158,eE qD9),
 (119,cO "changed" "changed" 327 72 3 114 336),
 (120,eE qD8),
 (126,cO "recorded" "recorded" 339 81 3 121 346),
 (127,eE qD7),
 (133,cO "done" "done" 349 88 4 128 359),
 (134,eE qD6),
 (193,cN "sizes_of" "sizes_of" 451 154 1 190 454),
 (194,eE qD5),
 (220,cN "rooms_left" "rooms_left" 490 186 1 217 493),
 (221,eE qD4),
 (198,cN "steps_in" "steps_in" 457 156 2 195 460),
 (199,eE qD3),
 (203,cN "steps_out" "steps_out" 463 158 2 200 466),
 (204,eE qD2),
 (210,cO "stepped" "stepped" 469 160 4 205 481),
 (211,eE qD1),
 (164,cO "goals_of" "goals_of" 402 129 3 159 410),
 (165,eE qD0),
 (215,cN "passed" "passed" 484 169 4 212 487),
 (216,eE qCZ),
 (227,cO "turn" "turn" 496 188 4 222 508),
 (228,eE qCY),
 (232,cN "rested" "rested" 513 200 4 229 516),
 (233,eE qCX),
 (237,cN "begun" "begun" 519 211 1 234 522),
 (238,eE qCW),
 (244,cO "after" "after" 525 219 3 239 533),
 (245,eE qCV),
 (249,cN "said" "said" 536 223 1 246 539),
 (250,eE qCU),
 (188,cN "lamps" "lamps" 443 151 2 185 446),
 (189,eE qCT),
 (316,cO "move" "move" 631 252 4 311 639),
 (317,eE qCS),
 (321,cN "flat" "flat" 642 255 2 318 645),
 (322,eE qCR),
 (328,cO "note" "note" 650 266 3 323 657),
 (329,eE qCQ),
 (333,cN "seen" "seen" 660 270 2 330 663),
 (334,eE qCP),
 (354,cO "_law_name" "_law_name" 688 299 2 349 695),
 (355,eE qCO),
 (361,cO "_law_deed" "_law_deed" 698 303 3 356 707),
 (362,eE qCN),
 (368,cO "_law_deeds" "_law_deeds" 710 318 5 363 722),
 (369,eE qCM),
 (375,cO "_law_guard" "_law_guard" 725 325 4 370 734),
 (376,eE qCL),
 (382,cO "_law_depths" "_law_depths" 737 341 2 377 744),
 (383,eE qCK),
 (389,cO "_law_rooms" "_law_rooms" 747 346 4 384 762),
 (390,eE qCJ),
 (394,cN "_law_doors" "_law_doors" 765 364 5 391 768),
 (395,eE qCI),
 (399,cN "_law_chart" "_law_chart" 771 383 1 396 774),
 (400,eE qCH),
 (406,cO "_law_place" "_law_place" 777 401 2 401 783),
 (407,eE qCG),
 (413,cO "_law_runs" "_law_runs" 786 406 2 408 797),
 (414,eE qCF),
 (420,cO "_law_met" "_law_met" 800 418 3 415 807),
 (421,eE qCE),
 (427,cO "_law_led" "_law_led" 810 423 6 422 821),
 (428,eE qCD),
 (434,cO "_law_unmet" "_law_unmet" 824 433 4 429 833),
 (435,eE qCC),
 (441,cO "_law_good" "_law_good" 836 441 6 436 846),
 (442,eE qCB),
 (448,cO "law" "law" 849 451 1 443 860),
 (449,eE Vj),
 (109,⟨.type "type",none,.cls ⟨"Letters",[.type "object"],[.ref 109,.type "object"],108,"Letters",true,[],[],false,none,false⟩,#[none,none,some (.str "Letters" 273),some (.str "Letters" 281),some (.builtin "object.__new__"),some (.bool true)]⟩),
 (108,⟨.type "dict",none,.dict #[kE P "__module__" 280 (.str "nesthall.letters" 271),kE P "__firstlineno__" 284 (.int (52) 283),kE P "__init__" 292 (.ref 85),kE P "add" 300 (.ref 92),kE P "taken" 307 (.ref 99),kE P "waiting" 314 (.ref 106),kE P "__static_attributes__" 317 (.ref 107),kE P "__dict__" 319 (.ref 110),kE P "__weakref__" 321 (.ref 111),kE P "__doc__" 322 .none] 4,#[]⟩),
 (84,cO "__init__" "Letters.__init__" 285 54 2 79 290),
 (85,eE Rb),
 (91,cO "add" "Letters.add" 293 58 2 86 298),
 (92,eE Ra),
 (98,cO "taken" "Letters.taken" 301 64 1 93 305),
 (99,eE RZ),
 (105,cO "waiting" "Letters.waiting" 308 69 1 100 312),
 (106,eE RX),
 (306,⟨.type "type",none,.cls ⟨"Finds",[.type "object"],[.ref 306,.type "object"],305,"Finds",true,[],[],false,none,false⟩,#[none,none,some (.str "Finds" 589),some (.str "Finds" 597),some (.builtin "object.__new__"),some (.bool true)]⟩),
 (305,⟨.type "dict",none,.dict #[kE P "__module__" 596 (.str "nesthall.tables" 587),kE P "__firstlineno__" 600 (.int (234) 599),kE P "__init__" 608 (.ref 296),kE P "row_of" 618 (.ref 303),kE P "__static_attributes__" 623 (.ref 304),kE P "__dict__" 625 (.ref 307),kE P "__weakref__" 627 (.ref 308),kE P "__doc__" 628 .none] 4,#[]⟩),
 (295,cO "__init__" "Finds.__init__" 601 236 2 290 606),
 (296,eE RW),
 (302,cO "row_of" "Finds.row_of" 609 242 3 297 616),
 (303,eE RV),
 (280,⟨.type "type",none,.cls ⟨"TooWide",[.ref 260],[.ref 280,.ref 260,.type "ValueError",.type "Exception",.type "BaseException",.type "object"],279,"TooWide",true,[],[],false,none,false⟩,#[some (.ref 264),none,some (.str "TooWide" 562),some (.str "TooWide" 570),some (.builtin "ValueError.__new__"),some (.bool true)]⟩),
 (279,⟨.type "dict",none,.dict #[kE P "__module__" 569 (.str "nesthall.errors" 542),kE P "__firstlineno__" 573 (.int (228) 572),kE P "__init__" 581 (.ref 277),kE P "__static_attributes__" 583 (.ref 278),kE P "__doc__" 584 .none] 2,#[]⟩),
 (276,cO "__init__" "TooWide.__init__" 574 230 2 271 579),
 (277,eE RT),
 (260,⟨.type "type",none,.cls ⟨"NestError",[.type "ValueError"],[.ref 260,.type "ValueError",.type "Exception",.type "BaseException",.type "object"],259,"NestError",true,[],[.ref 280],false,none,false⟩,#[some (.ref 251),none,some (.str "NestError" 544),some (.str "NestError" 552),some (.builtin "ValueError.__new__"),some (.bool true)]⟩),
 (259,⟨.type "dict",none,.dict #[kE P "__module__" 551 (.str "nesthall.errors" 542),kE P "__firstlineno__" 555 (.int (226) 554),kE P "__static_attributes__" 556 (.ref 258),kE P "__weakref__" 558 (.ref 261),kE P "__doc__" 559 .none] 3,#[]⟩),
 (2,⟨.none,none,.dict #[] 0,#[]⟩)]
noncomputable def KA:List Addr:=[3,340,341,347,348,140,141,147,148,27,28,20,21,39,40,46,47,32,33,51,52,58,59,65,66,70,71,169,170,176,177,183,184,152,153,157,158,119,120,126,127,133,134,193,194,220,221,198,199,203,204,210,211,164,165,215,216,227,228,232,233,237,238,244,245,249,250,188,189,316,317,321,322,328,329,333,334,354,355,361,362,368,369,375,376,382,383,389,390,394,395,399,400,406,407,413,414,420,421,427,428,434,435,441,442,448,449,109,108,84,85,91,92,98,99,105,106,306,305,295,296,302,303,280,279,276,277,260,259,2]
noncomputable def PW:Program:=PySem.Challenge.pw_nesthall_k50_whole_never_met
noncomputable def QV:Program:=PySem.W.view PW [69]
noncomputable def LS:List Str:=[Str.ofString "__name__",Str.ofString "parent",Str.ofString "end_of",Str.ofString "kids",Str.ofString "lies_in",Str.ofString "hall_over",Str.ofString "bears_goal",Str.ofString "next_in",Str.ofString "goings_in",Str.ofString "goings_out",Str.ofString "Letters",Str.ofString "changed",Str.ofString "recorded",Str.ofString "done",Str.ofString "holds",Str.ofString "answers",Str.ofString "is_outdone",Str.ofString "chosen",Str.ofString "goals_of",Str.ofString "plain_ones",Str.ofString "kept_of",Str.ofString "keeping",Str.ofString "lamps",Str.ofString "sizes_of",Str.ofString "steps_in",Str.ofString "steps_out",Str.ofString "stepped",Str.ofString "passed",Str.ofString "rooms_left",Str.ofString "turn",Str.ofString "rested",Str.ofString "begun",Str.ofString "after",Str.ofString "said",Str.ofString "NestError",Str.ofString "TooWide",Str.ofString "Finds",Str.ofString "move",Str.ofString "flat",Str.ofString "note",Str.ofString "seen",Str.ofString "_law_cell_at",Str.ofString "_law_mixed",Str.ofString "_law_name",Str.ofString "_law_deed",Str.ofString "_law_deeds",Str.ofString "_law_guard",Str.ofString "_law_depths",Str.ofString "_law_rooms",Str.ofString "_law_doors",Str.ofString "_law_chart",Str.ofString "_law_place",Str.ofString "_law_runs",Str.ofString "_law_met",Str.ofString "_law_led",Str.ofString "_law_unmet",Str.ofString "_law_good"]
noncomputable def HK:PySem.W.Hook:=PySem.W.kHook KO KA fun _=>by kernel_rfl
noncomputable def Yx:Stmt->Pos
 | .FunctionDef _ _ _ _ _ _ _ _ _ p=>p
 | _=>⟨0,0,0,0⟩
noncomputable def J8:DefRec:=⟨"law",oJ tZ,iH tZ,aB tZ,Yx tZ⟩
theorem len0{P:List Value->Prop}(h:P [])(xs:List Value)(e:xs.length=0):P xs:=by
 cases xs with
 | nil=>exact h
 | cons a ys=>cases e
theorem Mi{n:Nat}{P:List Value->Prop}(h:∀ a (ys:List Value),ys.length=n->P (a::ys))(xs:List Value)(e:xs.length=n+1):P xs:=by
 cases xs with
 | nil=>cases e
 | cons a ys=>exact h a ys (Nat.succ.inj e)
theorem Eu{P:List Value->Prop}(h:∀ a,P [a])(xs:List Value)(e:xs.length=1):P xs:=Mi (fun a=>len0 (h a)) xs e
theorem lG{P:List Value->Prop}(h:∀ a b,P [a,b])(xs:List Value)(e:xs.length=2):P xs:=Mi (fun a=>Eu (h a)) xs e
theorem jW{P:List Value->Prop}(h:∀ a b c,P [a,b,c])(xs:List Value)(e:xs.length=3):P xs:=Mi (fun a=>lG (h a)) xs e
theorem wG{P:List Value->Prop}(h:∀ a b c d,P [a,b,c,d])(xs:List Value)(e:xs.length=4):P xs:=Mi (fun a=>jW (h a)) xs e
theorem YF{P:List Value->Prop}(h:∀ a b c d f,P [a,b,c,d,f])(xs:List Value)(e:xs.length=5):P xs:=Mi (fun a=>wG (h a)) xs e
theorem qBH{P:List Value->Prop}(h:∀ a b c d f g,P [a,b,c,d,f,g])(xs:List Value)(e:xs.length=6):P xs:=Mi (fun a=>YF (h a)) xs e
set_option maxHeartbeats 0 in
theorem left:PySem.W.LeftO PW QV LS (fun s=>PySem.W.xlAt QV [] s&&PySem.W.recOk [] s) HK.obs HK.val 6656:=fun w=>by kernel_rfl
theorem hdef:PySem.W.defOf QV "law" = some (J8,[]):=by kernel_rfl
theorem hok:(PySem.W.chainsOk QV&&PySem.W.opensWell PW&&(PySem.W.frees PySem.Challenge.rw_nesthall_k50_whole_never_met.row.toRowW&&PySem.Challenge.rw_nesthall_k50_whole_never_met.row.within.isEmpty))=true:=by kernel_rfl
theorem hbare:PW.bare:=⟨rfl,rfl,rfl,rfl,rfl,by decide +kernel⟩
theorem hkw:PySem.W.kwWritten? J8.params.kwonlyargs J8.params.kw_defaults=some []:=by kernel_rfl
theorem hthe:PW.theDef "law" = some (J8.params,J8.body,J8.scope):=by kernel_rfl
noncomputable abbrev NS(x:Str)(a:Addr):Prop:=∀ P:Params,PySem.W.nsIn (KO P) mainGlobals x=some (some (.ref a))
noncomputable abbrev NZ(x:Str):Prop:=∀ P:Params,PySem.W.nsIn (KO P) mainGlobals x=some none
noncomputable abbrev FU(x q:Str)(st:Stmt)(a:Addr)(d:FuncData):Prop:=∀ P:Params,cY (KO P) x q st a d
theorem eG{x q:Str}{st:Stmt}{a:Addr}{pm cd:Value}(h:∀ P:Params,(KO P).lookup a=some (eE (du x q st pm cd))/\PySem.W.codeIn (KO P) cd q=true/\PySem.W.keepIn (KO P) (.ref a)=true:=by exact fun _=>⟨by kernel_rfl,by kernel_rfl,by kernel_rfl⟩):FU x q st a (du x q st pm cd):=fun P=>Yq (h P).1 (h P).2.1 (h P).2.2
theorem a1:NS "_law_cell_at" 341:=fun P=>by kernel_rfl
theorem u1:FU "_law_cell_at" "_law_cell_at" Jy 341 fd1:=eG
theorem a2:NS "_law_mixed" 348:=fun P=>by kernel_rfl
theorem u2:FU "_law_mixed" "_law_mixed" BX 348 fd2:=eG
theorem a3:NS "holds" 141:=fun P=>by kernel_rfl
theorem u3:FU "holds" "holds" mO 141 fd3:=eG
theorem a4:NS "answers" 148:=fun P=>by kernel_rfl
theorem u4:FU "answers" "answers" qT 148 fd4:=eG
theorem a5:NS "end_of" 28:=fun P=>by kernel_rfl
theorem u5:FU "end_of" "end_of" BZ 28 fd5:=eG
theorem a6:NS "parent" 21:=fun P=>by kernel_rfl
theorem u6:FU "parent" "parent" uZ 21 fd6:=eG
theorem a7:NS "lies_in" 40:=fun P=>by kernel_rfl
theorem u7:FU "lies_in" "lies_in" uc 40 fd7:=eG
theorem a8:NS "hall_over" 47:=fun P=>by kernel_rfl
theorem u8:FU "hall_over" "hall_over" nY 47 fd8:=eG
theorem a9:NS "kids" 33:=fun P=>by kernel_rfl
theorem u9:FU "kids" "kids" Df 33 fd9:=eG
theorem a10:NS "bears_goal" 52:=fun P=>by kernel_rfl
theorem u10:FU "bears_goal" "bears_goal" vR 52 qDH:=eG
theorem a11:NS "next_in" 59:=fun P=>by kernel_rfl
theorem X3:FU "next_in" "next_in" Ju 59 qDG:=eG
theorem a12:NS "goings_in" 66:=fun P=>by kernel_rfl
theorem u12:FU "goings_in" "goings_in" sIn 66 qDF:=eG
theorem a13:NS "goings_out" 71:=fun P=>by kernel_rfl
theorem W4:FU "goings_out" "goings_out" Pn 71 qDE:=eG
theorem a14:NS "plain_ones" 170:=fun P=>by kernel_rfl
theorem u14:FU "plain_ones" "plain_ones" vP 170 qDD:=eG
theorem a15:NS "kept_of" 177:=fun P=>by kernel_rfl
theorem u15:FU "kept_of" "kept_of" ud 177 qDC:=eG
theorem a16:NS "keeping" 184:=fun P=>by kernel_rfl
theorem u16:FU "keeping" "keeping" qO 184 qDB:=eG
theorem a17:NS "is_outdone" 153:=fun P=>by kernel_rfl
theorem u17:FU "is_outdone" "is_outdone" jm 153 qDA:=eG
theorem a18:NS "chosen" 158:=fun P=>by kernel_rfl
theorem u18:FU "chosen" "chosen" qQ 158 qD9:=eG
theorem a19:NS "changed" 120:=fun P=>by kernel_rfl
theorem u19:FU "changed" "changed" qR 120 qD8:=eG
theorem a20:NS "recorded" 127:=fun P=>by kernel_rfl
theorem u20:FU "recorded" "recorded" nW 127 qD7:=eG
theorem a21:NS "done" 134:=fun P=>by kernel_rfl
theorem u21:FU "done" "done" Jx 134 qD6:=eG
theorem a22:NS "sizes_of" 194:=fun P=>by kernel_rfl
theorem u22:FU "sizes_of" "sizes_of" iV 194 qD5:=eG
theorem a23:NS "rooms_left" 221:=fun P=>by kernel_rfl
theorem u23:FU "rooms_left" "rooms_left" eY 221 qD4:=eG
theorem a24:NS "steps_in" 199:=fun P=>by kernel_rfl
theorem u24:FU "steps_in" "steps_in" iU 199 qD3:=eG
theorem a25:NS "steps_out" 204:=fun P=>by kernel_rfl
theorem u25:FU "steps_out" "steps_out" fj 204 qD2:=eG
theorem a26:NS "stepped" 211:=fun P=>by kernel_rfl
theorem u26:FU "stepped" "stepped" nQ 211 qD1:=eG
theorem a27:NS "goals_of" 165:=fun P=>by kernel_rfl
theorem u27:FU "goals_of" "goals_of" qP 165 qD0:=eG
theorem a28:NS "passed" 216:=fun P=>by kernel_rfl
theorem u28:FU "passed" "passed" mL 216 qCZ:=eG
theorem a29:NS "turn" 228:=fun P=>by kernel_rfl
theorem u29:FU "turn" "turn" BK 228 qCY:=eG
theorem a30:NS "rested" 233:=fun P=>by kernel_rfl
theorem u30:FU "rested" "rested" mK 233 qCX:=eG
theorem a31:NS "begun" 238:=fun P=>by kernel_rfl
theorem u31:FU "begun" "begun" qI 238 qCW:=eG
theorem a32:NS "after" 245:=fun P=>by kernel_rfl
theorem u32:FU "after" "after" uW 245 qCV:=eG
theorem a33:NS "said" 250:=fun P=>by kernel_rfl
theorem u33:FU "said" "said" vN 250 qCU:=eG
theorem a34:NS "lamps" 189:=fun P=>by kernel_rfl
theorem u34:FU "lamps" "lamps" vQ 189 qCT:=eG
theorem a35:NS "move" 317:=fun P=>by kernel_rfl
theorem Wz:FU "move" "move" BP 317 qCS:=eG
theorem a36:NS "flat" 322:=fun P=>by kernel_rfl
theorem u36:FU "flat" "flat" vO 322 qCR:=eG
theorem a37:NS "note" 329:=fun P=>by kernel_rfl
theorem u37:FU "note" "note" BL 329 qCQ:=eG
theorem a38:NS "seen" 334:=fun P=>by kernel_rfl
theorem u38:FU "seen" "seen" sS 334 qCP:=eG
theorem a39:NS "_law_name" 355:=fun P=>by kernel_rfl
theorem u39:FU "_law_name" "_law_name" qK 355 qCO:=eG
theorem a40:NS "_law_deed" 362:=fun P=>by kernel_rfl
theorem u40:FU "_law_deed" "_law_deed" qM 362 qCN:=eG
theorem a41:NS "_law_deeds" 369:=fun P=>by kernel_rfl
theorem u41:FU "_law_deeds" "_law_deeds" nU 369 qCM:=eG
theorem a42:NS "_law_guard" 376:=fun P=>by kernel_rfl
theorem u42:FU "_law_guard" "_law_guard" iI 376 qCL:=eG
theorem a43:NS "_law_depths" 383:=fun P=>by kernel_rfl
theorem u43:FU "_law_depths" "_law_depths" km 383 qCK:=eG
theorem a44:NS "_law_rooms" 390:=fun P=>by kernel_rfl
theorem u44:FU "_law_rooms" "_law_rooms" BW 390 qCJ:=eG
theorem a45:NS "_law_doors" 395:=fun P=>by kernel_rfl
theorem u45:FU "_law_doors" "_law_doors" jj 395 qCI:=eG
theorem a46:NS "_law_chart" 400:=fun P=>by kernel_rfl
theorem u46:FU "_law_chart" "_law_chart" jl 400 qCH:=eG
theorem a47:NS "_law_place" 407:=fun P=>by kernel_rfl
theorem u47:FU "_law_place" "_law_place" nT 407 qCG:=eG
theorem a48:NS "_law_runs" 414:=fun P=>by kernel_rfl
theorem u48:FU "_law_runs" "_law_runs" qJ 414 qCF:=eG
theorem a49:NS "_law_met" 421:=fun P=>by kernel_rfl
theorem u49:FU "_law_met" "_law_met" uX 421 qCE:=eG
theorem a50:NS "_law_led" 428:=fun P=>by kernel_rfl
theorem u50:FU "_law_led" "_law_led" uY 428 qCD:=eG
theorem a51:NS "_law_unmet" 435:=fun P=>by kernel_rfl
theorem u51:FU "_law_unmet" "_law_unmet" nR 435 qCC:=eG
theorem a52:NS "_law_good" 442:=fun P=>by kernel_rfl
theorem u52:FU "_law_good" "_law_good" qL 442 qCB:=eG
theorem a53:NS "law" 449:=fun P=>by kernel_rfl
theorem u53:FU "law" "law" tZ 449 Vj:=eG
theorem qDV(P:Params):PySem.W.findIn (KO P) (.ref 109) "__init__" = some (some (.ref 85)):=by kernel_rfl
theorem qBP(P:Params):PySem.W.isFn (KO P) (.ref 85)=true:=by kernel_rfl
theorem Zz:FU "__init__" "Letters.__init__" Jv 85 Rb:=eG
theorem qDU(P:Params):PySem.W.findIn (KO P) (.ref 109) "add" = some (some (.ref 92)):=by kernel_rfl
theorem qBO(P:Params):PySem.W.isFn (KO P) (.ref 92)=true:=by kernel_rfl
theorem Zy:FU "add" "Letters.add" U8 92 Ra:=eG
theorem qDT(P:Params):PySem.W.findIn (KO P) (.ref 109) "taken" = some (some (.ref 99)):=by kernel_rfl
theorem qBN(P:Params):PySem.W.isFn (KO P) (.ref 99)=true:=by kernel_rfl
theorem Zx:FU "taken" "Letters.taken" BV 99 RZ:=eG
theorem qDS(P:Params):PySem.W.findIn (KO P) (.ref 109) "waiting" = some (some (.ref 106)):=by kernel_rfl
theorem qBM(P:Params):PySem.W.isFn (KO P) (.ref 106)=true:=by kernel_rfl
theorem Zw:FU "waiting" "Letters.waiting" qN 106 RX:=eG
theorem qDR(P:Params):PySem.W.findIn (KO P) (.ref 306) "__init__" = some (some (.ref 296)):=by kernel_rfl
theorem qBL(P:Params):PySem.W.isFn (KO P) (.ref 296)=true:=by kernel_rfl
theorem Zu:FU "__init__" "Finds.__init__" iC 296 RW:=eG
theorem qDQ(P:Params):PySem.W.findIn (KO P) (.ref 306) "row_of" = some (some (.ref 303)):=by kernel_rfl
theorem qBK(P:Params):PySem.W.isFn (KO P) (.ref 303)=true:=by kernel_rfl
theorem Zt:FU "row_of" "Finds.row_of" fB 303 RV:=eG
theorem Zr:FU "__init__" "TooWide.__init__" eZ 277 RT:=eG
theorem aC0:NS "Letters" 109:=fun P=>by kernel_rfl
theorem Bx(P:Params):uy (KO P) 109:=⟨by kernel_rfl,by kernel_rfl,by kernel_rfl,by kernel_rfl⟩
theorem qBC(P:Params):PySem.W.makesIn (KO P) 109=true/\PySem.W.keepIn (KO P) (.ref 109)=true:=⟨by kernel_rfl,by kernel_rfl⟩
theorem oA(P:Params):PySem.W.findIn (KO P) (.ref 109) "most" = some none:=by kernel_rfl
theorem dq(P:Params):PySem.W.findIn (KO P) (.ref 109) "events" = some none:=by kernel_rfl
theorem aC1:NS "Finds" 306:=fun P=>by kernel_rfl
theorem J9(P:Params):uy (KO P) 306:=⟨by kernel_rfl,by kernel_rfl,by kernel_rfl,by kernel_rfl⟩
theorem qBB(P:Params):PySem.W.makesIn (KO P) 306=true/\PySem.W.keepIn (KO P) (.ref 306)=true:=⟨by kernel_rfl,by kernel_rfl⟩
theorem nu(P:Params):PySem.W.findIn (KO P) (.ref 306) "most" = some none:=by kernel_rfl
theorem cj(P:Params):PySem.W.findIn (KO P) (.ref 306) "stands" = some none:=by kernel_rfl
theorem fY(P:Params):PySem.W.findIn (KO P) (.ref 306) "paths" = some none:=by kernel_rfl
theorem iG(P:Params):PySem.W.findIn (KO P) (.ref 306) "numbers" = some none:=by kernel_rfl
theorem aC2:NS "TooWide" 280:=fun P=>by kernel_rfl
theorem aC3:NS "NestError" 260:=fun P=>by kernel_rfl
theorem z1:NZ "len" := fun P=>by kernel_rfl
theorem z2:NZ "max" := fun P=>by kernel_rfl
theorem z3:NZ "min" := fun P=>by kernel_rfl
theorem z4:NZ "range" := fun P=>by kernel_rfl
theorem z5:NZ "list" := fun P=>by kernel_rfl
theorem z6:NZ "tuple" := fun P=>by kernel_rfl
theorem z7:NZ "isinstance" := fun P=>by kernel_rfl
theorem z8:NZ "int" := fun P=>by kernel_rfl
theorem z9:NZ "bool" := fun P=>by kernel_rfl
theorem Zq:NZ "sorted" := fun P=>by kernel_rfl
theorem Zo:NZ "any" := fun P=>by kernel_rfl
theorem z12:NZ "enumerate" := fun P=>by kernel_rfl
theorem z13:NZ "str" := fun P=>by kernel_rfl
theorem Iv(P:Params):PySem.W.keepIn (KO P) (.ref 280)=true:=by kernel_rfl
theorem Ir(P:Params):PySem.W.exmOne (KO P) (.ref 280) (.ref 280)=some true:=by kernel_rfl
theorem fE1(P:Params):PySem.W.specialIn (KO P) (.ref 260) "__getattribute__" = some (some (.builtin "type.__getattribute__")):=by kernel_rfl
theorem fE2(P:Params):PySem.W.readsIn (KO P) 260 (.type "type")=true:=by kernel_rfl
theorem fE3(P:Params):PySem.W.findCls (KO P) (.ref 260) (.type "type") "__init__" = some (.val (.builtin "ValueError.__init__")):=by kernel_rfl
end Aa
namespace L2
open PySem PyProof.Rows
theorem okS{P:Program}{w:World}{K:bO}{mg:Str->Option Value}{base:Heap}{x qual:Str}{st:Stmt}{f:Addr}{fd:FuncData}{N ps:List Str}{k:Nat}{sp:Sp}(sc:Scope)(hsc:aB st=sc)(F:cY K x qual st f fd)(S:aH N ps sc)(len:∀ vs H Q E,sp vs H Q E->vs.length=ps.length)
  (hbody:∀(cdv:Value)(A:Around)(outer:List Env)(s:Shared)(H:Hp)(vs:List V)(Q:VK)(E:XK),eF k (A.deeper (envOfC qual sc s.heap.objs.size f cdv))->sp vs H Q E →
   ∃ t,Ac (oU aW P w K mg base N qual sc f cdv A outer s H E).ZS (iH st) t/\t { nx:=fun _ H'=>Q .non H',rt:=Q } (start N vs) H):aM P w K mg base aW (k+1) f fd ps sp:=by
 subst hsc;exact F.ok S len hbody
end L2
namespace L2
open PySem PySem.Spec PyProof.Rows
section
variable{X:Cx}{pins:List (Addr×Obj)}{σ:St}{H:Hp}{s:Shared}{a:Addr}{o:HO}
theorem j6.adopt{P:Program}{w:World}{h:Heap}(x:j6 P w H h)(hn:H a=none)(new:bL P w (upd H a o) h a o):j6 P w (upd H a o) h:=fun b u e=>by
 by_cases hb:b=a
 ·subst hb;rw[zC]at e;cases e;exact new
 ·rw[zQ hb]at e
  exact (x b u e).stay (fun c v _ q=>q) (fun c q=>by rw[zQ (zM q hn)];exact q) fun c xs q=>by rw[zQ (zM q hn)];exact q
theorem Inv.adopt(I:Inv X pins σ H s)(f:gM X pins H a)(new:bL X.prog X.w (upd H a o) s.heap a o):Inv X pins σ (upd H a o) s:=by
 obtain⟨hn,hL,hfs,hex,hc,hp⟩:=f;refine⟨I.ok,I.os,I.bare,⟨I.base.keep,I.base.slot,fun b ob e n hx=>?_,I.base.there,fun b xs e=>?_,fun b ob u e=>?_,fun b ps e=>?_⟩,I.loc,I.cell,by rw[zQ (Ne.symm hL)];exact I.free,fun x c e=>by rw[zQ (hc x c e)];exact I.jH x c e,fun p q=>?_,j6.adopt I.hok hn new,I.len⟩
 ·have nb:b≠a:=fun z=>by
   rcases hex with z' | z'
   ·exact hx (z▸z')
   ·exact absurd (gP e) (by rw[z];exact Nat.not_lt.mpr z')
  rw[zQ nb];exact I.base.free b ob e n hx
 ·have q:=I.base.tups b xs e;rw[zQ (zM q hn)];exact q
 ·have q:=I.base.tH b ob u e;rw[zQ (zM q hn)];exact q
 ·obtain⟨m,q⟩:=I.base.uJ b ps e;exact⟨m,by rw[zQ (zM q hn)];exact q⟩
 ·obtain⟨e,n,r⟩:=I.pin p q;exact⟨e,by rw[zQ (hp p q)];exact n,r⟩
end
theorem ju{α β:Type}{f:α->β->Sem (ForInStep β)}{g:α->β->β}:∀(l:List α)(c:β),(∀ x∈l,∀ c,f x c=pure (.yield (g x c)))->forIn l c f=pure (l.foldl (fun c x=>g x c) c)
 | [],_,_=>rfl
 | x::l,c,h=>by
  rw[List.forIn_cons,h x Cu,pure_bind];exact ju l (g x c) fun y hy=>h y (GQ _ hy)
noncomputable def clG(env:Env)(x:Str×NameKind)(c:List (Str×Addr)):List (Str×Addr):=if (x.2==NameKind.free)=true then (x.1,(env.cells.lookup x.1).getD 0)::c else c
noncomputable def lZ(env:Env)(scope:Scope):List (Str×Addr):=scope.names.foldl (fun c x=>clG env x c) []
theorem pO{env:Env}{scope:Scope}(h:∀ y∈scope.names,y.2 = .free->∃ c,env.cells.lookup y.1=some c):closureFor scope env=pure (lZ env scope):=by
 simp only[closureFor]
 rw[ju (g:=clG env) scope.names [] (fun x hx c=>by
  obtain⟨n,k⟩:=x;unfold clG
  by_cases hk:(k==NameKind.free)=true
  ·obtain⟨a,ha⟩:=h _ hx (by simpa using hk);have ha':env.cells.lookup n=some a:=ha;simp only[hk,if_true,cellOf,ha',pure_bind,Option.getD_some]
  ·have hk':(k==NameKind.free)=false:=Bool.eq_false_iff.mpr hk
   simp only[hk',Bool.false_eq_true,if_false])]
 rfl
theorem rA{env:Env}:∀(l:List (Str×NameKind))(cs:List (Str×Addr)),(∀ y∈l,y.2 = .free->∃ c,env.cells.lookup y.1=some c)->(∀ y c,cs.lookup y=some c->env.cells.lookup y=some c) →
  (∀ y c,(l.foldl (fun c x=>clG env x c) cs).lookup y=some c->env.cells.lookup y=some c)/\∀ y,((cs.lookup y).isSome=true∨(y,NameKind.free)∈l)->((l.foldl (fun c x=>clG env x c) cs).lookup y).isSome=true
 | [],cs,_,h=>⟨h,fun y hy=>hy.elim id fun z=>absurd z (by simp)⟩
 | (n,k)::l,cs,hf,h=>by
  have hf':∀ y∈l,y.2 = .free->∃ c,env.cells.lookup y.1=some c:=fun y hy=>hf y (GQ _ hy);rw[List.foldl_cons]
  by_cases hk:k = .free
  ·subst hk;obtain⟨a,ha⟩:=hf (n,.free) Cu rfl;have ha':env.cells.lookup n=some a:=ha
   have e:clG env (n,.free) cs=(n,a)::cs:=by
    unfold clG;rw[if_pos (by rfl)];show (n,(env.cells.lookup n).getD 0)::cs=_;rw[ha'];rfl
   rw[e]
   have ih:=rA l ((n,a)::cs) hf' (fun y c hy=>by
    rw[List.lookup_cons]at hy
    cases hb:y==n with
    | true=>
     rw[hb]at hy;rw[eq_of_beq hb];exact ha'.trans hy
    | false=>
     rw[hb]at hy
     exact h y c hy)
   refine⟨ih.1,fun y hy=>ih.2 y ?_⟩;rcases hy with hy | hy
   ·left
    rw[List.lookup_cons]
    cases y==n with
    | true=>rfl
    | false=>exact hy
   ·rcases bI.mp hy with hy | hy
    ·left
     rw[(Prod.mk.inj hy).1,List.lookup_cons];simp
    ·exact .inr hy
  ·have e:clG env (n,k) cs=cs:=by
    unfold clG;rw[if_neg (by simpa using hk)]
   rw[e];have ih:=rA l cs hf' h;refine⟨ih.1,fun y hy=>ih.2 y ?_⟩;rcases hy with hy | hy
   ·exact .inl hy
   ·rcases bI.mp hy with hy | hy
    ·exact absurd (Prod.mk.inj hy).2.symm hk
    ·exact .inr hy
theorem dF{env:Env}:∀ {names:List (Str×NameKind)} {x:Str},names.lookup x=some .free →
  (names.map fun (n,k)=>if (k==NameKind.free&&env.scope.kind==.function&&env.kindOf n==some .cell) then (n,NameKind.cell) else (n,k)).lookup x≠some .local
 | [],_,h=>by simp at h
 | (n,k)::r,x,h=>by
  have ih:=@dF env r x;show List.lookup x ((if (k==NameKind.free&&env.scope.kind==.function&&env.kindOf n==some .cell)=true then (n,NameKind.cell) else (n,k))::_)≠_
  cases hx:x==n with
  | true=>
   simp only[List.lookup_cons,hx]at h
   cases h
   split
   ·simp [List.lookup_cons,hx]
   ·simp [List.lookup_cons,hx]
  | false=>
   simp only[List.lookup_cons,hx]at h
   by_cases hc:(k==NameKind.free&&env.scope.kind==.function&&env.kindOf n==some .cell)=true
   ·rw[if_pos hc];simp only[List.lookup_cons,hx];exact ih h
   ·rw[if_neg hc];simp only[List.lookup_cons,hx];exact ih h
theorem lU{env:Env}{scope:Scope}{y:Str}(nc:∀ z∈scope.names,z.2≠.cell)(h:(relabel scope env).names.lookup y=some .cell∨(relabel scope env).names.lookup y=some .free):(y,NameKind.free)∈scope.names:=by
 have go:∀ k,(k=NameKind.cell∨k=NameKind.free)->(relabel scope env).names.lookup y=some k->(y,NameKind.free)∈scope.names:=fun k hk e=>by
  have m:=PySem.mem_of_lookup e;obtain⟨⟨n,k'⟩,hm,e'⟩:=eQ.mp m
  by_cases hc:(k'==NameKind.free&&env.scope.kind==.function&&env.kindOf n==some .cell)=true
  ·have e2:(n,NameKind.cell)=(y,k):=by
    rw[<-e'];show _=(if (k'==NameKind.free&&env.scope.kind==.function&&env.kindOf n==some .cell)=true then (n,NameKind.cell) else (n,k'));rw[if_pos hc]
   have hk':k' = .free:=by
    simp only[Bool.and_eq_true,beq_iff_eq]at hc;exact hc.1.1
   rw[<-(Prod.mk.inj e2).1,<-hk'];exact hm
  ·have e2:(n,k')=(y,k):=by
    rw[<-e'];show _=(if (k'==NameKind.free&&env.scope.kind==.function&&env.kindOf n==some .cell)=true then (n,NameKind.cell) else (n,k'));rw[if_neg hc]
   rcases hk with hk | hk
   ·exact absurd ((Prod.mk.inj e2).2.trans hk) (nc _ hm)
   ·rw[<-(Prod.mk.inj e2).1,<-hk,<-(Prod.mk.inj e2).2];exact hm
 rcases h with h | h
 ·exact go _ (.inl rfl) h
 ·exact go _ (.inr rfl) h
noncomputable def cJ(X:Cx)(N:List Str)(scope:Scope)(C:Addr)(s:Shared)(H:Hp)(ex:List Addr)(pn:List (Addr×Obj))(E:Value->Shared->Prop):Cx where
 prog:=X.prog
 w:=X.w
 K:=X.K
 mg:=X.mg
 base:=X.base
 A:=X.A
 N:=N
 s₀:=s
 H₀:=H
 env:=compEnvC scope (lZ X.env scope) C X.env
 outer:=X.stack
 stack:=X.stack
 ex:=ex
 fn:=fun _=>false
 calm:=X.calm
 pn:=pn
 xe:=E
structure bD(ZQ:Scope)(N:List Str)(scope:Scope)(x:Str)(aX:List (Nat×Str)):Prop where
 kind:scope.kind = .function
 hx:scope.names.lookup x=some .local
 yr:∀ y∈scope.names,y.2≠.cell
 Qo:∀ y∈scope.names,y.2 = .local->scope.names.lookup y.1=some .local
 free:∀ y∈scope.names,y.2 = .free->ZQ.names.lookup y.1=some .cell∨ZQ.names.lookup y.1=some .free
 cap:∀ p∈aX,N[p.1]? = some p.2/\scope.names.lookup p.2=some .free
 nd:(x::aX.map (·.2)).Nodup
noncomputable def tM(aX:List (Nat×Str))(σ:St):St:=aX.map fun p=>(σ[p.1]?).getD none
noncomputable def Fw(X:Cx)(ifs:List Expr)(tc:TT):Prop:=
 ∀(pins:List (Addr×Obj))(s:Shared)(σ:St)(H:Hp)(Q:Bool->Hp->Prop),Inv X pins σ H s->tc σ H Q →
  wpAny (model X.prog X.w) X.A (forIn ifs true fun c r=>if r=true then do let ok ← isTrue c X.env (eval c X.env);pure (ForInStep.yield ok) else pure (ForInStep.yield r)) (TP X pins σ Q) X.xe s
noncomputable def qA0:TT:=fun _ H Q=>Q true H
theorem cD{X:Cx}:Fw X [] qA0:=fun _ _ _ H _ I h=>by
 simp only[List.forIn_nil];exact wpAny_pure ⟨H,I,h⟩
theorem fG{X:Cx}{c:Expr}{tc:TT}(h:PT X c tc):Fw X [c] tc:=by
 intro pins s σ H Q I hq;simp only[List.forIn_cons,List.forIn_nil,if_true];exact wpAny_bind (wpAny_bind (wpAny_mono (h pins s σ H Q I hq) (fun b s' hb=>wpAny_pure (wpAny_pure hb)) fun _ _ x=>x))
noncomputable def jQ(J:It)(cs:St)(tc:TT)(te:TE)(H1:Hp)(Z:List V->Hp->Prop):Prop:=
 ∃ W:Nat->Nat->List V->Hp->Prop,(∃ m,W 0 m [] H1)/\∀ i m acc H,W i m acc H →
  (J.stop i H/\Z acc H)∨(J.go i H/\∃ N:List V->Hp->Prop,(∀ a H',N a H'->∃ m',m'<m/\W (i+1) m' a H') ∧
   ∀ x H',J.Th i H x H'->tc (some x::cs) H' fun b H2=>if b=true then te (some x::cs) H2 fun v H3=>acc.length<sizeLine/\N (acc++[v]) H3 else N acc H2)
noncomputable def Oi(wi:TI)(aX:List (Nat×Str))(tc:TT)(te:TE):TE:=fun σ H Q=>wi σ H fun J H1=>jQ J (tM aX σ) tc te H1 fun acc H2 => ∀ p,H2 p=none->Q (.ref p) (upd H2 p (.lst acc))
theorem zj{X:Cx}{elt iter:Expr}{x:Str}{ns:List Str}{px pos:Pos}{ifs:List Expr}{scope:Scope}{it D:Addr}{fp:List Addr}{tn:Nat->Heap->Prop}{J:It}{tc:TT}{te:TE}{Z:List V->Hp->Prop}{R:Result->Shared->Prop}
  {cs:St} {o:Option V} {H:Hp} {s:Shared} (hc:X.calm=true) (hN:X.N=x::ns) (nd:X.N.Nodup) (hx:X.env.scope.names.lookup x=some .local) (I:Inv X [] (o::cs) H s) (T:Turn X.prog X.w X.K (.Name x px) J fp it tn) (st:tn 0 s.heap) (hf:∀ b∈fp,gM X [] H b)
  (hD:gM X [] H D) (hDf:D∉fp) (pl:s.heap.PlainList D #[]) (wL:Fw X ifs tc) (helt:PE X elt te) (hW:jQ J cs tc te H Z) (hxe:X.xe=notedBy (model X.prog X.w) X.A X.env fun e s'=>R (.error e) s')
  (hR:∀(s':Shared)(H':Hp)(acc:List V)(its:List Value)(o':Option V),Inv X [] (o'::cs) H' s'->s'.heap.PlainList D its.toArray->Vals acc its->acc.length<=sizeLine->H' D=none->Z acc H'->R (.ok .next) s') :
  codeAny (model X.prog X.w) X.A (.compLoop (.ListComp elt [⟨.Name x px,iter,ifs,0⟩] scope pos) 0 (.ref it) (.ref D) X.env) R s:=by
 obtain⟨W,⟨m0,w0⟩,turn⟩:=hW;refine codeAny_compLoop_tests (fun n s'=>∃(i:Nat)(acc:List V)(its:List Value)(H':Hp)(o':Option V),Inv X [] (o'::cs) H' s'/\tn i s'.heap/\(∀ b∈fp,H' b=none)/\H' D=none/\s'.heap.PlainList D its.toArray/\Vals acc its/\acc.length<=sizeLine/\W i n acc H') ?_ m0
  ⟨0,[],[],H,o,I,st,fun b hb=>(hf b hb).1,hD.1,pl,.nil,Nat.zero_le _,w0⟩
 rintro n s3 ⟨i,acc,its,H3,o3,I3,st3,fr3,hD3,⟨nD,gD⟩,va,hl,w3⟩;rw[<-hxe]
 have I4:Inv X [(D,{ cls:=.type "list",data:=.seq its.toArray nD })] (o3::cs) H3 s3:=I3.qY fun p hp=>by
  obtain rfl:p=(D,{ cls:=.type "list",data:=.seq its.toArray nD }):=by simpa using hp
  exact⟨gD,hD3,hD.2.1,hD.2.2.1,fun v z=>by cases (show Data.seq its.toArray nD=Data.cell v from z)⟩
 have stat:∀ {H':Hp},(∀ b∈fp,H' b=none)->∀ b∈fp,gM X [(D,{ cls:=.type "list",data:=.seq its.toArray nD })] H' b:=fun hn b hb=>by
  obtain⟨_,f1,f2,f3,f4,f5⟩:=hf b hb;refine⟨hn b hb,f1,f2,f3,f4,fun p hp=>?_⟩;rcases cX.mp hp with z | z
  ·exact f5 p (List.mem_append_left _ z)
  ·obtain rfl:p=(D,{ cls:=.type "list",data:=.seq its.toArray nD }):=by simpa using z
   exact fun e=>hDf (by rw[show D=b from e];exact hb)
 rcases turn i n acc H3 w3 with ⟨stop,z⟩ | ⟨go,N,hNn,step⟩
 ·refine au (T.done X rfl rfl rfl hc i _ s3 (o3::cs) H3 X.xe I4 (stat fr3) st3 stop) fun r s4 ⟨hr,I5⟩=>?_;subst hr;exact hR s4 H3 acc its o3 (I5.qY fun p hp=>absurd hp (by simp)) ⟨nD,(I5.pin _ (List.mem_append_right _ (List.mem_singleton.mpr rfl))).1⟩ va hl hD3 z
 ·refine au (T.item X rfl rfl rfl hc i _ s3 (o3::cs) H3 X.xe I4 (stat fr3) st3 go) fun r s4 ⟨u,hr,h4⟩=>?_;subst hr;have e0:(letOwnedTupleGo (.Name x px) (.ref it) u >>= fun _=>assign (.Name x px) X.env u)=assign (.Name x px) X.env u:=rfl;show wpAny _ _ (assign (.Name x px) X.env u) _ _ s4;rw[<-e0];refine wpAny_bind (au h4 fun _ s5 ⟨xv,H5,I5,r5,y5,rQ,fr5⟩=>?_);have I5':=I5.pinned (stat fr5) (T.obj _ _ rQ);refine wpAny_assign_Name (mC (i:=0) I5' nd (by rw[hN] <;> rfl) (.inl hx) r5 (fun s6 I6=>?_) (.inr hx));have I6':Inv X ([(D,{ cls:=.type "list",data:=.seq its.toArray nD })]++sV fp s5.heap) (some xv::cs) H5 s6:=I6;have later:∀ {σ':St} {H':Hp} {s':Shared},Inv X ([(D,{ cls:=.type "list",data:=.seq its.toArray nD })]++sV fp s5.heap) σ' H' s' →
    Inv X [] σ' H' s'/\tn (i+1) s'.heap/\(∀ b∈fp,H' b=none)/\H' D=none/\s'.heap.get? D=some { cls:=.type "list",data:=.seq its.toArray nD }:=fun {σ' H' s'} J'=>by
   have pD:=J'.pin (D,{ cls:=.type "list",data:=.seq its.toArray nD }) (List.mem_append_right _ (List.mem_append_left _ (cB.mpr rfl)));refine⟨J'.qY fun p hp=>absurd hp (by simp),T.keep _ _ _ rQ fun b hb ob e=>(J'.pin (b,ob) (List.mem_append_right _ (List.mem_append_right _ (lF hb e)))).1,fun b hb=>?_,pD.2.1,pD.1⟩;obtain⟨ob,e,_⟩:=T.obj _ _ rQ b hb;exact (J'.pin (b,ob) (List.mem_append_right _ (List.mem_append_right _ (lF hb e)))).2.1
  refine au (wL _ s6 (some xv::cs) H5 _ I6' (step xv H5 y5)) fun b s7 ⟨H7,I7,q7⟩=>?_
  cases b with
  | false=>
   obtain⟨m',hm,w7⟩:∃ m',m'<n/\W (i+1) m' acc H7:=hNn acc H7 q7;obtain⟨l1,l2,l3,l4,l5⟩:=later I7;exact⟨m',hm,i+1,acc,its,H7,some xv,l1,l2,l3,l4,⟨nD,l5⟩,va,hl,w7⟩
  | true=>
   have q7':te (some xv::cs) H7 fun v H3=>acc.length<sizeLine/\N (acc++[v]) H3:=q7;show wpAny _ _ (eval elt X.env) _ _ s7;refine au (helt _ s7 (some xv::cs) H7 _ I7 q7') fun u8 s8 ⟨v,H8,I8,r8,hlt,n8⟩=>?_;obtain⟨m',hm,w8⟩:=hNn _ _ n8;obtain⟨l1,l2,l3,l4,l5⟩:=later I8;have hlen:=va.length;refine wpAny_list_append_plain (hsz:=by simp only[List.size_toArray];lia) ⟨nD,l5⟩ fun h9 pl9 sb9=>?_;refine⟨m',hm,i+1,acc++[v],its++[u8],H8,some xv,l1.turned (t':=s8.toks) (fun b ob hb e=>(sb9.2 b hb).trans e) l4 hD.2.1 hD.2.2.2.1 hD.2.2.2.2.1 hD.2.2.2.2.2,?_,l3,l4,by simpa using pl9,va.append (.cons r8 .nil),?_,w8⟩
   ·exact T.keep _ _ _ l2 fun b hb ob e=>(sb9.2 b (fun z=>hDf (z▸hb))).trans e
   ·rw[dW,gj];lia
section
variable{X:Cx}{elt iter:Expr}{x:Str}{px pos:Pos}{ifs:List Expr}{scope:Scope}{aX:List (Nat×Str)}{wi:TI}{tc:TT}{te:TE}
theorem Inv.vA{pins:List (Addr×Obj)}{σ:St}{H:Hp}{s:Shared}{b:Addr}(I:Inv X pins σ H s)(h1:b≠X.env.locals)(h2:b∉X.fs):b∉frs X.stack:=fun z=>(bI.mp (I.Gn b z)).elim h1 h2
theorem wZ{pins:List (Addr×Obj)}{σ:St}{H:Hp}{s:Shared}{E:Value->Shared->Prop}{it:Addr}{fp:List Addr}{tn:Nat->Heap->Prop}{J:It}{Z:List V->Hp->Prop}{RR:Value->Addr->Result->Shared->Prop}
  (hc:X.calm=true) (S:bD X.env.scope X.N scope x aX) (I:Inv X pins σ H s) (T:Turn X.prog X.w X.K (.Name x px) J fp it tn) (st:tn 0 s.heap) (hf:∀ b∈fp,gM X pins H b)
  (wL:∀ C s H ex pn E,Fw (cJ X (x::aX.map (·.2)) scope C s H ex pn E) ifs tc) (helt:∀ C s H ex pn E,PE (cJ X (x::aX.map (·.2)) scope C s H ex pn E) elt te)
  (hW:jQ J (tM aX σ) tc te H Z)
  (hRR:∀(s':Shared)(H':Hp)(acc:List V)(its:List Value)(D C:Addr)(m:Str->Option Value),Inv X pins σ H' s'->s'.heap.PlainList D its.toArray->Vals acc its->acc.length<=sizeLine->gM X pins H' D->gM X pins H' C->D≠C->s'.heap.Ns C m->Z acc H'->RR (.ref D) C (.ok .next) s') :
  wpAny (model X.prog X.w) X.A (newList []) (fun acc s₃=>wpAny (model X.prog X.w) X.A (newFunctionEnv scope X.env.globals (lZ X.env scope) [] X.env.qual none .none (some X.env)) (fun cenv s₄=>
   codeAny (model X.prog X.w) X.A (.compStart (.ListComp elt [⟨.Name x px,iter,ifs,0⟩] scope pos) 0 (.ref it) acc { cenv with scope:=relabel scope X.env }) (RR acc cenv.locals) s₄) E s₃) E s:=by
 refine wpAny_newObj_type (wpAny_newFunctionEnv S.yr (by intro y hy;simp at hy) (fun h₁ hns₁ hsb₁=>?_) S.kind)
 dsimp only at hns₁ hsb₁ ⊢
 have Zg:Inv X pins σ H { s with heap:=s.heap.push { cls:=.type "list",dict:=none,data:=.seq ([]:List Value).toArray } }:=I.kept (t':=s.toks) fun b u e=>j5 _ e;have gD3:(s.heap.push { cls:=.type "list",dict:=none,data:=.seq ([]:List Value).toArray }).get? s.heap.objs.size=some { cls:=.type "list",dict:=none,data:=.seq ([]:List Value).toArray }:=xJ _ rfl;have Ii:(s.heap.push { cls:=.type "list",dict:=none,data:=.seq ([]:List Value).toArray }).objs.size=s.heap.objs.size+1:=Heap.size_push _ _;generalize TY:s.heap.push { cls:=.type "list",dict:=none,data:=.seq ([]:List Value).toArray }=h3 at hns₁ hsb₁ Zg gD3 Ii ⊢;have k3:∀ b u,s.heap.get? b=some u->h3.get? b=some u:=fun b u e=>TY▸j5 _ e;have R3:∀ b u,h3.get? b=some u->h₁.get? b=some u:=fun b u e=>(hsb₁.2 b (kI (gP e))).trans (j5 _ e);have k1:∀ b u,s.heap.get? b=some u->h₁.get? b=some u:=fun b u e=>R3 b u (k3 b u e)
 have hDC:s.heap.objs.size≠h3.objs.size:=by rw[Ii];exact kI (Nat.lt_succ_self _)
 have fD:gM X pins H s.heap.objs.size:=I.wO (bM _) (I.hok.fresh (bM _));have fC:gM X pins H h3.objs.size:=I.wO (by rw[Ii];exact Nat.le_succ _) (I.hok.fresh (by rw[Ii];exact Nat.le_succ _));have lfp:∀ b∈fp,b<s.heap.objs.size:=fun b hb=>let ⟨_,e,_⟩:=T.obj _ _ st b hb;gP e;have hDf:s.heap.objs.size∉fp:=fun z=>Nat.lt_irrefl _ (lfp _ z);have hfree:∀ y∈scope.names,y.2 = .free->∃ c,X.env.cells.lookup y.1=some c:=fun y hy e=>I.ok.has y.1 (S.free y hy e);obtain⟨sub,has⟩:=rA scope.names [] hfree (fun y c e=>by simp at e);have p8:∀ y c,(lZ X.env scope).lookup y=some c->X.env.cells.lookup y=some c:=sub;have Ik:∀ y,(y,NameKind.free)∈scope.names->∃ c,(lZ X.env scope).lookup y=some c:=fun y hy=>Option.isSome_iff_exists.mp (has y (.inr hy));have inj:∀ b∈s.heap.objs.size::fp,gM X pins H b:=fun b hb=>(bI.mp hb).elim (fun z=>z▸fD) (hf b);have ltC:∀ b∈s.heap.objs.size::fp,b≠h3.objs.size:=fun b hb=>(bI.mp hb).elim (fun z=>z▸hDC) fun z=>kI (by rw[Ii];exact Nat.lt_succ_of_lt (lfp b z))
 have I1:Inv (cJ X (x::aX.map (·.2)) scope h3.objs.size { s with heap:=h3 } H (s.heap.objs.size::fp) (X.pn++pins)
   (notedBy (model X.prog X.w) X.A (compEnvC scope (lZ X.env scope) h3.objs.size X.env) fun e s'=>RR (.ref s.heap.objs.size) h3.objs.size (.error e) s')) [] (none::tM aX σ) H { s with heap:=h₁,toks:=s.toks+([]:List (Str×Value)).length }:=by
  refine⟨⟨I.ok.mod,S.kind,I.ok.glob,I.ok.blt,bM _,fun y z c e1 e2=>I.ok.inj y z c (p8 _ _ e1) (p8 _ _ e2),fun y hy=>Ik y (lU S.yr hy),fun y c e=>(nomatch e),I.ok.hd,I.ok.frames,.inl rfl,fun b hb=>⟨ltC b hb,fun y c e=>(inj b hb).2.2.2.2.1 y c (p8 y c e)⟩,
    fun b ob e=>⟨k3 b ob (I.bs b ob e).1,(I.bs b ob e).2⟩,?_,fun b ob e z=>?_,fun b hb=>I.vA (inj b hb).2.1 (inj b hb).2.2.1,?_,I.qD⟩,
   rfl,I.bare,Un.kept R3,⟨_,hns₁,fun i y v e1 e2 e3=>?_⟩,fun y c e=>?_,fC.1,fun y c e=>I.jH y c (p8 y c e),fun p hp=>?_,I.hok.kept k1,?_⟩
  ·exact Nat.le_trans I.ok.OD (Nat.le_trans I.sz (by show s.heap.objs.size<=h3.objs.size;rw[Ii];exact Nat.le_succ _))
  ·rcases (inj b z).2.2.2.1 with w1 | w1
   ·exact I.ok.Hw b ob e w1
   ·exact absurd (Ai (gP e) I.ok.OD) (Nat.not_lt.mpr w1)
  ·exact Heap.FunFrames.of_keeps (fun b ob e _=>⟨ob,k3 b ob e,rfl⟩) I.stack
  ·cases i with
   | zero=>cases e2
   | succ i=>
    have e1':(aX.map (·.2))[i]? = some y:=e1;have e2':(tM aX σ)[i]? = some (some v):=e2;unfold tM at e2';rw[gf]at e1' e2'
    cases ep:aX[i]? with
    | none=>rw[ep]at e1';cases e1'
    | some p=>
     rw[ep]at e1' e2';obtain rfl:p.2=y:=jO e1';have Bv:(σ[p.1]?).getD none=some v:=jO e2'
     have hσ:σ[p.1]? = some (some v):=by
      cases es:σ[p.1]? with
      | none=>rw[es]at Bv;cases Bv
      | some w1=>rw[es]at Bv;exact congrArg some Bv
     obtain⟨cN,cF⟩:=S.cap p (Gf ep);have mF:(p.2,NameKind.free)∈scope.names:=PySem.mem_of_lookup cF;have oF:=S.free _ mF rfl;obtain⟨m,hn,hlook⟩:=I.loc;obtain⟨u,ru,lk⟩:=hlook p.1 p.2 v cN hσ (.inr oF);refine⟨u,ru,.inr ⟨?_,?_⟩⟩
     ·rcases e3 with z | z
      ·exact absurd z (dF cF)
      ·exact z
     ·obtain⟨c,ec⟩:=Ik p.2 mF;refine⟨c,ec,?_⟩;rcases lk with ⟨z,_⟩ | ⟨_,c',ec',ob,ho,hd⟩
      ·have z':X.env.scope.names.lookup p.2=some .local:=z;rw[z']at oF;rcases oF with q | q <;> cases q
      ·have ee:=(p8 _ _ ec).symm.trans ec'
       cases ee
       exact⟨ob,k1 _ _ ho,hd⟩
  ·obtain⟨v,ob,ho,hd⟩:=I.cell y c (p8 y c e);exact⟨v,ob,k1 _ _ ho,hd⟩
  ·have hp':p∈X.pn++pins:=by
    rcases cX.mp hp with z | z
    ·exact z
    ·exact absurd z (by simp)
   obtain⟨e,n,ne,nf,d⟩:=I.pin p hp';refine⟨k1 _ _ e,n,kI ?_,I.vA ne nf,d⟩;show p.1<h3.objs.size;rw[Ii];exact Nat.lt_succ_of_lt (gP e)
  ·show (none::tM aX σ).length=(x::aX.map (·.2)).length;simp [tM]
 have hf1:∀ b∈s.heap.objs.size::fp,gM (cJ X (x::aX.map (·.2)) scope h3.objs.size { s with heap:=h3 } H (s.heap.objs.size::fp) (X.pn++pins)
   (notedBy (model X.prog X.w) X.A (compEnvC scope (lZ X.env scope) h3.objs.size X.env) fun e s'=>RR (.ref s.heap.objs.size) h3.objs.size (.error e) s')) [] H b:=fun b hb=>by
  obtain⟨f0,f1,f2,f3,f4,f5⟩:=inj b hb;refine⟨f0,ltC b hb,I.vA f1 f2,.inl hb,fun y c e=>f4 y c (p8 y c e),fun p hp=>f5 p ?_⟩;rcases cX.mp hp with z | z
  ·exact z
  ·exact absurd z (by simp)
 have st1:tn 0 h₁:=T.keep _ _ _ st fun b _ ob e=>k1 b ob e
 have loop:codeAny (model X.prog X.w) X.A (.compLoop (.ListComp elt [⟨.Name x px,iter,ifs,0⟩] scope pos) 0 (.ref it) (.ref s.heap.objs.size) (compEnvC scope (lZ X.env scope) h3.objs.size X.env)) (RR (.ref s.heap.objs.size) h3.objs.size) { s with heap:=h₁,toks:=s.toks+([]:List (Str×Value)).length }:=by
  refine zj (X:=cJ X (x::aX.map (·.2)) scope h3.objs.size { s with heap:=h3 } H (s.heap.objs.size::fp) (X.pn++pins) (notedBy (model X.prog X.w) X.A (compEnvC scope (lZ X.env scope) h3.objs.size X.env) fun e s'=>RR (.ref s.heap.objs.size) h3.objs.size (.error e) s'))
   hc rfl S.nd (lookup_relabel_local S.hx) I1 T st1 (fun b hb=>hf1 b (GQ _ hb)) (hf1 _ Cu) hDf ⟨0,R3 _ _ gD3⟩ (wL _ _ _ _ _ _) (helt _ _ _ _ _ _) hW rfl ?_
  intro s' H' acc its o' J1 Uh va hlen nD z;have u1:Un (frs X.stack) (s.heap.objs.size::fp) H H' h3 s'.heap:=J1.base
  have J2:Inv X pins σ H' s':=Inv.call' (s:={ s with heap:=h3 }) Zg J1.os u1 J1.hok J1.bare fun b hb=>by
   obtain⟨_,f1,_,f3,f4,f5⟩:=inj b hb;exact⟨f3,f1,f4,f5⟩
  obtain⟨m,hn,_⟩:=J1.loc;exact hRR s' H' acc its _ _ m J2 Uh va hlen ⟨nD,fD.2⟩ ⟨J1.free,fC.2⟩ hDC hn z
 exact codeAny_compStart_list loop (T.self _ 0 _ _ _ st1 loop)
theorem yT(hc:X.calm=true)(S:bD X.env.scope X.N scope x aX)(hi:PI X (.Name x px) iter wi)
  (wL:∀ C s H ex pn E,Fw (cJ X (x::aX.map (·.2)) scope C s H ex pn E) ifs tc) (helt:∀ C s H ex pn E,PE (cJ X (x::aX.map (·.2)) scope C s H ex pn E) elt te)
  (hs:∀ x,foldedSetIterable iter X.env x=pure x:=by intro _;rfl):PE X (.ListComp elt [⟨.Name x px,iter,ifs,0⟩] scope pos) (Oi wi aX tc te):=by
 intro pins s σ H Q I h;have hfree:∀ y∈scope.names,y.2 = .free->∃ c,X.env.cells.lookup y.1=some c:=fun y hy e=>I.ok.has y.1 (S.free y hy e);rw[eval_ListComp];refine wpAny_comprehension_free (use:=none) rfl hs (pO hfree) S.kind S.Qo (au (hi pins s σ H _ I h) fun v s1 h1=>au h1 fun itv s2 h2=>?_);obtain⟨it,fp,tn,J,H2,e,I2,T,st2,f2,hW⟩:=h2;subst e;refine wZ (RR:=fun acc C=>compPost (model X.prog X.w) X.A X.xe none (EP X pins σ Q) acc C) hc S I2 T st2 f2 wL helt hW ?_;intro s' H' acc its D C m J2 Uh va hlen fD fC hDC hn z;obtain⟨nD,gD⟩:=Uh;refine⟨m,hn,fun h'' sb=>?_⟩;have J3:Inv X pins σ H' { s' with heap:=h'' }:=J2.turned (t':=s'.toks) (fun b ob hb e=>(sb.2 b hb).trans e) fC.1 fC.2.1 fC.2.2.2.1 fC.2.2.2.2.1 fC.2.2.2.2.2;exact⟨.ref D,upd H' D (.lst acc),J3.adopt fD ⟨hlen,its,nD,va,(sb.2 D hDC).trans gD⟩,rfl,z D fD.1⟩
theorem qX{i:Nat}{y:Str}{py spos:Pos}(hc:X.calm=true)(hN:X.N.Nodup)(hi':X.N[i]? = some y)(hy:Loc X.env.scope y)(S:bD X.env.scope X.N scope x aX)(hi:PI X (.Name x px) iter wi)
  (wL:∀ C s H ex pn E,Fw (cJ X (x::aX.map (·.2)) scope C s H ex pn E) ifs tc) (helt:∀ C s H ex pn E,PE (cJ X (x::aX.map (·.2)) scope C s H ex pn E) elt te)
  (hsw:swapsWith (.ListComp elt [⟨.Name x px,iter,ifs,0⟩] scope pos) (some (.Name y py)) spos.line X.env=pure true:=by rfl) (hs:∀ x,foldedSetIterable iter X.env x=pure x:=by intro _;rfl)
  (hfn:X.fn y=true∨X.env.scope.names.lookup y=some .local:=by first | exact .inl rfl | exact .inr rfl | assumption):PS X (.Assign [.Name y py] (.ListComp elt [⟨.Name x px,iter,ifs,0⟩] scope pos) spos) (Oj (Oi wi aX tc te) (FZ i)):=by
 intro pins s σ H D0 I h;have hfree:∀ y∈scope.names,y.2 = .free->∃ c,X.env.cells.lookup y.1=some c:=fun y hy e=>I.ok.has y.1 (S.free y hy e);rw[exec_Assign_Name_used _ _ _ _ hsw];refine wpAny_bind (wpAny_standAt (wpAny_bind ?_));show wpAny _ _ (do let _ ← comprehension (.ListComp elt [⟨.Name x px,iter,ifs,0⟩] scope pos) scope X.env _ (newList []) false (eval iter X.env) (some (assign (.Name y py) X.env))) _ _ s
 refine wpAny_bind (wpAny_mono (wpAny_comprehension_free (use:=some (assign (.Name y py) X.env)) (Q:=fun _ s'=>SP X pins D0 .next s') rfl hs (pO hfree) S.kind S.Qo
  (au (hi pins s σ H _ I h) fun v s1 h1=>au h1 fun itv s2 h2=>?_)) (fun _ s' hq=>wpAny_pure (wpAny_pure hq)) fun _ _ e=>e)
 obtain⟨it,fp,tn,J,H2,e,I2,T,st2,f2,hW⟩:=h2;subst e;refine wZ (RR:=fun acc C=>compPost (model X.prog X.w) X.A X.xe (some (assign (.Name y py) X.env)) (fun _ s'=>SP X pins D0 .next s') acc C) hc S I2 T st2 f2 wL helt hW ?_;intro s' H' acc its D C m J2 Uh va hlen fD fC hDC hn z;obtain⟨nD,gD⟩:=Uh;have J3:Inv X pins σ (upd H' D (.lst acc)) s':=J2.adopt fD ⟨hlen,its,nD,va,gD⟩;show wpAny _ _ (assign (.Name y py) X.env (.ref D)) _ _ s';refine wpAny_assign_Name (rZ J3 hN hi' hy (show RelV (.ref D) (.ref D) from rfl) (fun s4 J4 ⟨a,sa,ha⟩=>?_) hfn)
 have hCa:C≠a:=by
  rcases ha with q | q
  ·rw[q];exact fC.2.1
  ·exact (fC.2.2.2.2.1 y a q).symm
 refine⟨m,hn.sameBut sa hCa,fun h'' sb=>?_⟩;exact⟨_,_,J4.turned (t':=s4.toks) (fun b ob hb e=>(sb.2 b hb).trans e) (by rw[zQ (Ne.symm hDC)];exact fC.1) fC.2.1 fC.2.2.2.1 fC.2.2.2.2.1 fC.2.2.2.2.2,z D fD.1⟩
end
theorem Bw{J:It}{cs:St}{tc:TT}{te:TE}{H1:Hp}{Z:List V->Hp->Prop}(n:Nat)(Pv:Nat->List V->Hp->Prop)(h0:Pv 0 [] H1)(hd:∀ acc H,Pv n acc H->J.stop n H/\Z acc H)
  (hs:∀ i acc H,i<n->Pv i acc H->J.go i H/\∀ x H',J.Th i H x H'->tc (some x::cs) H' fun b H2=>if b=true then te (some x::cs) H2 fun v H3=>acc.length<sizeLine/\Pv (i+1) (acc++[v]) H3 else Pv (i+1) acc H2) :
  jQ J cs tc te H1 Z:=by
 refine⟨fun i m acc H=>m=n-i/\i<=n/\Pv i acc H,⟨n,by simp,Nat.zero_le _,h0⟩,?_⟩;rintro i m acc H ⟨rfl,hi,p⟩
 by_cases hlt:i<n
 ·obtain⟨g,y⟩:=hs i acc H hlt p;exact .inr ⟨g,Pv (i+1),fun a H' q=>⟨n-(i+1),by lia,rfl,hlt,q⟩,y⟩
 ·have e:i=n:=by lia
  subst e;exact .inl (hd acc H p)
theorem ir{lo:Int}{n:Nat}{cs:St}{tc:TT}{te:TE}{H1:Hp}{Z:List V->Hp->Prop}(Pv:Nat->List V->Hp->Prop)(h0:Pv 0 [] H1)
  (hs:∀ i acc H,i<n->Pv i acc H->tc (some (.int (lo+i))::cs) H fun b H2=>if b=true then te (some (.int (lo+i))::cs) H2 fun v H3=>acc.length<sizeLine/\Pv (i+1) (acc++[v]) H3 else Pv (i+1) acc H2)
  (hd:∀ acc H,Pv n acc H->Z acc H):jQ (Vw lo n) cs tc te H1 Z:=
 Bw n Pv h0 (fun acc H p=>⟨bM _,hd acc H p⟩) fun i acc H hi p=>⟨hi,fun x H' y=>by
  obtain⟨e,y⟩:=y;subst e y
  exact hs i acc _ hi p⟩
theorem yS{K:bO}{a:Addr}{xs:List V}{cs:St}{tc:TT}{te:TE}{H1:Hp}{Z:List V->Hp->Prop}(Pv:Nat->List V->Hp->Prop)(h0:Pv 0 [] H1)(hl:∀ i acc H,Pv i acc H->aQ K H a xs)
  (hs:∀ i x acc H,xs[i]? = some x->Pv i acc H->tc (some x::cs) H fun b H2=>if b=true then te (some x::cs) H2 fun v H3=>acc.length<sizeLine/\Pv (i+1) (acc++[v]) H3 else Pv (i+1) acc H2)
  (hd:∀ acc H,Pv xs.length acc H->Z acc H):jQ (ZC K a) cs tc te H1 Z:=
 Bw xs.length Pv h0 (fun acc H p=>⟨⟨xs,hl _ _ _ p,Nat.le_refl _⟩,hd acc H p⟩) fun i acc H hi p=>⟨⟨xs,xs[i],hl _ _ _ p,by simp [hi]⟩,fun x H' y=>by
  obtain⟨e,y⟩:=y;subst e
  exact hs i x acc _ (y xs (hl _ _ _ p)) p⟩
theorem mq{K:bO}{a:Addr}{xs:List V}{cs:St}{tc:TT}{te:TE}{H1:Hp}{Z:List V->Hp->Prop}(Pv:Nat->List V->Hp->Prop)(h0:Pv 0 [] H1)(hl:∀ i acc H,Pv i acc H->aK K H a xs)
  (hs:∀ i x acc H,xs[i]? = some x->Pv i acc H->tc (some x::cs) H fun b H2=>if b=true then te (some x::cs) H2 fun v H3=>acc.length<sizeLine/\Pv (i+1) (acc++[v]) H3 else Pv (i+1) acc H2)
  (hd:∀ acc H,Pv xs.length acc H->Z acc H):jQ (Zm K a) cs tc te H1 Z:=
 Bw xs.length Pv h0 (fun acc H p=>⟨⟨xs,hl _ _ _ p,Nat.le_refl _⟩,hd acc H p⟩) fun i acc H hi p=>⟨⟨xs,xs[i],hl _ _ _ p,by simp [hi]⟩,fun x H' y=>by
  obtain⟨e,y⟩:=y;subst e
  exact hs i x acc _ (y xs (hl _ _ _ p)) p⟩
noncomputable def Gb(z:Str):It:=⟨fun i _=>i<z.cps.size,fun i H x H'=>H'=H/\∃ c,z.cps[i]? = some c/\x = .str ⟨#[c]⟩,fun i _=>z.cps.size<=i⟩
section
variable{X:Cx}{tg:Expr}
end
section
variable{X:Cx}
theorem Pa:SlR X (fun x lo hi H Q => ∃ z,x = .str z/\z.length<=sizeLine/\Q (.str (Txt.slice z lo hi)) H):=by
 intro pins s σ H x v vl vu lo hi sl Q I rx hs pl pu h;obtain⟨z,rfl,hz,q⟩:=h;obtain⟨t,rfl⟩:=rx
 have fin:∀(l u:Option (Int×Tok)),s.heap.IsSlice sl l u none->l.map (·.1)=lo->u.map (·.1)=hi->wpAny (model X.prog X.w) X.A (getItem (.str z t) (.ref sl)) (EP X pins σ Q) X.xe s:=fun l u h1 h2 h3=>by
  subst h2 h3;exact wpAny_getItem_str_slice (l:=l) (u:=u) (st:=none) h1 rfl (post_val_or_str ⟨Nat.le_trans (Txt.slice_le z _ _) hz,fun t' k=>⟨.str _,H,I.tok _,⟨_,rfl⟩,q⟩⟩)
 refine⟨"str",_,F.slot_str_getitem.lookup,typeIs_str _ _ _,?_⟩
 cases pl with
 | none=>
  cases pu with
  | none=>exact fin none none hs rfl rfl
  | int j uj=>exact fin none (some (j,uj)) hs rfl rfl
 | int i ui=>
  cases pu with
  | none=>exact fin (some (i,ui)) none hs rfl rfl
  | int j uj=>exact fin (some (i,ui)) (some (j,uj)) hs rfl rfl
end
section
variable{X:Cx}{a b c:Expr}{ta tb:TE}{pos:Pos}
end
theorem jx{α:Type}{xs:List α}{i:Int}(h0:0<=i)(h1:i<(xs.length:Int)):∃ v∈xs,uQ xs i=some v:=by
 have hk:i.toNat<xs.length:=by lia
 have e:xs[i.toNat]? = some xs[i.toNat]:=gq hk;refine⟨xs[i.toNat],je hk,?_⟩;have q:=yQ e;rw[Int.toNat_of_nonneg h0]at q;exact q
theorem Le{ns:List Int}{i:Int}(h0:0<=i)(h1:i<(ns.length:Int)):∃ v:Int,uQ (ns.map V.int) i=some (.int v):=by
 obtain⟨v,hv,e⟩:=jx (xs:=ns.map V.int) h0 (by rw[bZ];exact h1);obtain⟨n,_,rfl⟩:=eQ.mp hv;exact⟨n,e⟩
theorem zI{n:Nat}(h:n<=1000):n<=sizeLine:=Nat.le_of_lt (zV h)
theorem Y6(x:Int):Builtin.bitAnd x 2147483647=x%2147483648:=PySem.W.kbt_mask x 31
theorem WY(x:Int):0<=Builtin.bitAnd x 2147483647/\Builtin.bitAnd x 2147483647<2147483648:=by
 rw[Y6];lia
section
variable{X:Cx}{st:Stmt}{rest:List Stmt}{t u:TS}
noncomputable def qAF(t u:TS):TS:=fun D σ H => ∃ M:St->Hp->Prop,t { D with nx:=M } σ H/\∀ σ' H',M σ' H'->u D σ' H'
theorem zZ(h1:PS X st t)(h2:Ac X rest u):Ac X (st::rest) (qAF t u):=by
 intro pins s σ H D I h;obtain⟨M,h,hM⟩:=h;refine wpAny_execs_cons (au (h1 pins s σ H { D with nx:=M } I h) fun f s1 q=>?_)
 cases f with
 | next=>
  obtain⟨σ',H',I',q⟩:=q;exact h2 pins s1 σ' H' D I' (hM σ' H' q)
 | ret v=>exact q
 | brk=>exact q
 | cont=>exact q
end
theorem zF{H:Hp}{p:Addr}(h:H p=none)(o:HO):aG H (upd H p o):=fun b u q=>by rw[zQ (zM q h)];exact q
noncomputable def qAE(t:TE):TE:=fun σ H Q => ∃ M:VK,t σ H M/\∀ v H',M v H'->Q v H'
theorem pH{X:Cx}{e:Expr}{t:TE}(h:PE X e t):PE X e (qAE t):=by
 intro pins s σ H Q I ⟨M,hM,hQ⟩;exact au (h pins s σ H M I hM) fun u s' ⟨v,H',I',r,m⟩=>⟨v,H',I',r,hQ v H' m⟩
noncomputable def qAD(t:TT):TT:=fun σ H Q => ∃ M:Bool->Hp->Prop,t σ H M/\∀ b H',M b H'->Q b H'
theorem bc{X:Cx}{e:Expr}{t:TT}(h:PT X e t):PT X e (qAD t):=by
 intro pins s σ H Q I ⟨M,hM,hQ⟩;exact au (h pins s σ H M I hM) fun b s' ⟨H',I',m⟩=>⟨H',I',hQ b H' m⟩
end L2
namespace L2
open PySem
theorem eO{N P:List Str}{sc:Scope}(kind:sc.kind = .function:=by rfl)(co:sc.isCoroutine=false:=by rfl)(gen:sc.isGenerator=false:=by rfl)(nd:N.Nodup:=by decide +kernel)(pre:N.take P.length=P:=by rfl)
  (par:∀ x∈P,sc.names.lookup x=some .local∨sc.names.lookup x=some .cell:=by decide +kernel) (Hv:∀ y∈sc.names,y.2≠.free:=by decide +kernel):aH N P sc:=⟨kind,co,gen,nd,pre,par,Hv⟩
theorem xN{ZQ:Scope}{N:List Str}{scope:Scope}{x:Str}{aX:List (Nat×Str)}(kind:scope.kind = .function:=by rfl)(hx:scope.names.lookup x=some .local:=by rfl)(yr:∀ y∈scope.names,y.2≠.cell:=by decide +kernel)
  (Qo:∀ y∈scope.names,y.2 = .local->scope.names.lookup y.1=some .local:=by decide +kernel) (free:∀ y∈scope.names,y.2 = .free->ZQ.names.lookup y.1=some .cell∨ZQ.names.lookup y.1=some .free:=by decide +kernel)
  (cap:∀ p∈aX,N[p.1]? = some p.2/\scope.names.lookup p.2=some .free:=by decide +kernel) (nd:(x::aX.map (·.2)).Nodup:=by decide +kernel):bD ZQ N scope x aX:=⟨kind,hx,yr,Qo,free,cap,nd⟩
structure Dp(P:Program)(w:World)(K:bO)(mg:Str->Option Value)(base:Heap)(CX:Ge)(n:Nat)(f:Addr)(d:FuncData)(ps:List Str)(sp:Sp)(x:Str):Prop where
 G:aM P w K mg base CX n f d ps sp
 b:Binds K d ps []
 k:KI K f
 m:mg x=some (.ref f)
section
variable{X:Cx}{k:Nat}{f:Addr}{fd:FuncData}{ps:List Str}{sp:Sp}{x:Str}{p pos:Pos}{e:Expr}{es:List Expr}{t:TA}
theorem pC(D:Dp X.prog X.w X.K X.mg X.base aW k f fd ps sp x)(hr:eF k X.A)(ha:PA X (e::es) t)(hg:Gl X x:=by rfl)(hdb:(x==("__debug__" : Str))=false:=by decide)(he:starEach (e::es) X.env=(false,eval e X.env)::starEach es X.env:=by rfl)(hpl:(backTo pos (starEach es X.env)).any (·.1)=false:=by rfl) :
  PE X (.Call (.Name x p) (e::es) [] pos) (W8 sp [] E0 t):=zJ D.G hr hg D.m D.k D.b .nil yE ha hdb he hpl
end
end L2
namespace HT
open PySem PySem.Spec PyProof.Rows
section
variable{prog:Program}{w:World}{A:Around}{E:Value->Shared->Prop}{s:Shared}
end
end HT
namespace L2
open PySem PySem.Spec PyProof.Rows
section
variable{X:Cx}
end
section
variable{κ:Type} [DecidableEq κ]
noncomputable def cG(kvs:List (κ×V))(k:κ):Option V:=(kvs.find? fun kv=>decide (kv.1=k)).map (·.2)
noncomputable def putK(kvs:List (κ×V))(k:κ)(v:V):List (κ×V):=
 if (kvs.any fun kv=>decide (kv.1=k))=true then kvs.map (fun kv=>if kv.1=k then (kv.1,v) else kv) else kvs++[(k,v)]
theorem bu{p:κ×V}{r:List (κ×V)}{k:κ}(e:p.1=k):cG (p::r) k=some p.2:=by simp [cG,List.find?_cons,e]
theorem bw{p:κ×V}{r:List (κ×V)}{k:κ}(e:¬ p.1=k):cG (p::r) k=cG r k:=by simp [cG,List.find?_cons,e]
theorem jg(k:κ):∀ kvs:List (κ×V),(kvs.any fun kv=>decide (kv.1=k))=(cG kvs k).isSome
 | []=>rfl
 | p::r=>by
  rw[List.any_cons]
  by_cases e:p.1=k
  ·simp only[bu e,decide_eq_true e,Bool.true_or,Option.isSome_some]
  ·rw[bw e,decide_eq_false e,Bool.false_or];exact jg k r
theorem Cw(k j:κ)(y:V):∀ kvs:List (κ×V),cG (kvs.map fun kv=>if kv.1=k then (kv.1,y) else kv) j=(cG kvs j).map fun x=>if j=k then y else x
 | []=>rfl
 | p::r=>by
  have ih:=Cw k j y r;rw[List.map_cons]
  by_cases h:p.1=k
  ·rw[if_pos h]
   by_cases e:p.1=j
   ·rw[bu (p:=(p.1,y)) e,bu e,Option.map_some,if_pos (e.symm.trans h)]
   ·rw[bw (p:=(p.1,y)) e,bw e,ih]
  ·rw[if_neg h]
   by_cases e:p.1=j
   ·rw[bu (p:=p) e,bu e,Option.map_some,if_neg (fun z=>h (e.trans z))]
   ·rw[bw (p:=p) e,bw e,ih]
theorem xj(k j:κ)(y:V):∀ kvs:List (κ×V),cG kvs k=none->cG (kvs++[(k,y)]) j=if j=k then some y else cG kvs j
 | [],_=>by
  by_cases e:k=j
  ·rw[if_pos e.symm];exact bu (p:=(k,y)) e
  ·rw[if_neg (fun z=>e z.symm)];exact bw (p:=(k,y)) e
 | p::r,hn=>by
  rw[List.cons_append]
  have hk:¬ p.1=k:=fun z=>by rw[bu z]at hn;cases hn
  rw[bw hk]at hn;have ih:=xj k j y r hn
  by_cases e:p.1=j
  ·rw[bu e,bu e,if_neg (fun z=>hk (e.trans z))]
  ·rw[bw e,bw e,ih]
theorem Oa(kvs:List (κ×V))(k j:κ)(y:V):cG (putK kvs k y) j=if j=k then some y else cG kvs j:=by
 unfold putK
 by_cases a:(kvs.any fun kv=>decide (kv.1=k))=true
 ·rw[if_pos a,Cw];rw[jg]at a
  by_cases e:j=k
  ·obtain⟨x,hx⟩:=Option.isSome_iff_exists.mp a;rw[if_pos e,e,hx,Option.map_some,if_pos rfl]
  ·rw[if_neg e]
   cases cG kvs j with
   | none=>rfl
   | some x=>rw[Option.map_some,if_neg e]
 ·rw[if_neg a];refine xj k j y kvs ?_;rw[jg]at a
  cases q:cG kvs k with
  | none=>rfl
  | some x=>rw[q]at a;exact (a rfl).elim
theorem uB(kvs:List (κ×V))(k:κ)(v:V):(putK kvs k v).length<=kvs.length+1:=by
 unfold putK
 split
 ·rw[bZ];lia
 ·rw[dW,dz,List.length_nil];lia
theorem Q4{kvs:List (κ×V)}{k:κ}(v:V)(h:cG kvs k=none):putK kvs k v=kvs++[(k,v)]:=by
 unfold putK;rw[jg,h];exact if_neg (by decide)
theorem lg.tE{o:Option V}{u:Option Value}(r:lg o u):o.isSome=u.isSome:=by
 cases o with
 | none=>cases u with
  | none=>rfl
  | some _=>exact (show False from r).elim
 | some _=>cases u with
  | none=>exact (show False from r).elim
  | some _=>rfl
theorem KV.val{kvs:List (κ×V)}{vs:List (κ×Value)}(r:KV kvs vs)(k:κ):lg (cG kvs k) (valueAt vs k):=by
 unfold KV at r
 induction r with
 | nil=>exact True.intro
 | @cons p q ps qs h t ih=>
  obtain⟨h1,h2⟩:=h
  by_cases e:p.1=k
  ·have e':q.1=k:=h1.symm.trans e
   have b:valueAt (q::qs) k=some q.2:=by simp [valueAt,List.find?_cons,e']
   rw[bu e,b];exact h2
  ·have e':¬ q.1=k:=fun z=>e (h1.trans z)
   have b:valueAt (q::qs) k=valueAt qs k:=by simp [valueAt,List.find?_cons,e']
   rw[bw e,b];exact ih
theorem KV.any{kvs:List (κ×V)}{vs:List (κ×Value)}(r:KV kvs vs)(k:κ):(kvs.any fun kv=>decide (kv.1=k))=vs.any fun kv=>decide (kv.1=k):=by
 unfold KV at r
 induction r with
 | nil=>rfl
 | cons h t ih=>rw[List.any_cons,List.any_cons,ih,h.1]
theorem KV.repl{kvs:List (κ×V)}{vs:List (κ×Value)}(r:KV kvs vs)(k:κ){y:V}{u:Value}(ry:RelV y u) :
  KV (kvs.map fun kv=>if kv.1=k then (kv.1,y) else kv) (vs.map fun kv=>if kv.1=k then (kv.1,u) else kv):=by
 unfold KV at r ⊢
 induction r with
 | nil=>exact .nil
 | @cons p q ps qs h t ih=>
  rw[List.map_cons,List.map_cons];refine .cons ?_ ih;obtain⟨h1,h2⟩:=h
  by_cases e:p.1=k
  ·rw[if_pos e,if_pos (h1.symm.trans e)];exact⟨h1,ry⟩
  ·rw[if_neg e,if_neg (fun z=>e (h1.trans z))];exact⟨h1,h2⟩
theorem KV.put{kvs:List (κ×V)}{vs:List (κ×Value)}(r:KV kvs vs)(k:κ){y:V}{u:Value}(ry:RelV y u):KV (putK kvs k y) (stored vs k u):=by
 unfold putK stored;rw[r.any k]
 by_cases e:(vs.any fun kv=>decide (kv.1=k))=true
 ·rw[if_pos e,if_pos e];exact r.repl k ry
 ·rw[if_neg e,if_neg e];exact Paired.snoc r ⟨rfl,ry⟩
theorem KV.keys{kvs:List (κ×V)}{vs:List (κ×Value)}(r:KV kvs vs):kvs.map (·.1)=vs.map (·.1):=by
 unfold KV at r
 induction r with
 | nil=>rfl
 | cons h t ih=>rw[List.map_cons,List.map_cons,ih,h.1]
theorem KV.length{kvs:List (κ×V)}{vs:List (κ×Value)}(r:KV kvs vs):kvs.length=vs.length:=Paired.length r
end
theorem FQ{P:Program}{w:World}{k:Key}{u:Value}(r:RelV (kV k) u):(bW P w).is k u=true:=by
 cases k with
 | inl i=>obtain⟨t,e⟩:=(show ∃ t,u=Value.int i t from r);subst e;exact Ep P w i t
 | inr x=>obtain⟨t,e⟩:=(show ∃ t,u=Value.str x t from r);subst e;exact Eo P w x t
theorem zc{P:Program}{w:World}:∀ {ks:List Key} {us:List Value},Vals (ks.map kV) us->ItemsAre (bW P w) ks us
 | [],_,r=>by rw[List.map_nil]at r;cases r;exact .nil
 | k::ks,_,r=>by
  rw[List.map_cons]at r
  cases r with
  | cons h t=>exact .cons (FQ h) (zc t)
noncomputable abbrev KT(H:Hp):List (List Key×V)->List (List Key×Addr×Value)->Prop:=Paired fun p q=>p.1=q.1/\H q.2.1=some (.tup (p.1.map kV))/\RelV p.2 q.2.2
theorem KT.val{H:Hp}{kvs:List (List Key×V)}{xs:List (List Key×Addr×Value)}(r:KT H kvs xs)(k:List Key):lg (cG kvs k) ((atKey xs k).map (·.2)):=by
 induction r with
 | nil=>exact True.intro
 | @cons p q ps qs h t ih=>
  obtain⟨h1,_,h2⟩:=h
  by_cases e:p.1=k
  ·have e':q.1=k:=h1.symm.trans e
   have b:atKey (q::qs) k=some q.2:=by simp [atKey,List.find?_cons,e']
   rw[bu e,b];exact h2
  ·have e':¬ q.1=k:=fun z=>e (h1.trans z)
   have b:atKey (q::qs) k=atKey qs k:=by simp [atKey,List.find?_cons,e']
   rw[bw e,b];exact ih
theorem KT.repl{H:Hp}{kvs:List (List Key×V)}{xs:List (List Key×Addr×Value)}(r:KT H kvs xs)(k:List Key){y:V}{u:Value}(ry:RelV y u) :
  KT H (kvs.map fun kv=>if kv.1=k then (kv.1,y) else kv) (xs.map (putAt k u)):=by
 induction r with
 | nil=>exact .nil
 | @cons p q ps qs h t ih=>
  rw[List.map_cons,List.map_cons];refine .cons ?_ ih;obtain⟨h1,h2,h3⟩:=h;unfold putAt
  by_cases e:p.1=k
  ·rw[if_pos e,if_pos (h1.symm.trans e)];exact⟨h1,h2,ry⟩
  ·rw[if_neg e,if_neg (fun z=>e (h1.trans z))];exact⟨h1,h2,h3⟩
theorem KT.put{H:Hp}{kvs:List (List Key×V)}{xs:List (List Key×Addr×Value)}(r:KT H kvs xs)(k:List Key){b:Addr}{y:V}{u:Value}(hb:H b=some (.tup (k.map kV)))(ry:RelV y u) :
  KT H (putK kvs k y) (storedH xs k b u):=by
 have e:(kvs.any fun kv=>decide (kv.1=k))=(atKey xs k).isSome:=by
  rw[jg,(r.val k).tE,Option.isSome_map]
 unfold putK storedH;rw[e]
 by_cases q:(atKey xs k).isSome=true
 ·rw[if_pos q,if_pos q];exact r.repl k ry
 ·rw[if_neg q,if_neg q];exact Paired.snoc r ⟨rfl,hb,ry⟩
theorem KT.keeps{H H':Hp}{kvs:List (List Key×V)}{xs:List (List Key×Addr×Value)}(r:KT H kvs xs)(ht:∀ b ys,H b=some (.tup ys)->H' b=some (.tup ys)):KT H' kvs xs:=
 Paired.Y7 r fun _ _ z=>⟨z.1,ht _ _ z.2.1,z.2.2⟩
section
variable{P:Program}{w:World}{H:Hp}{h:Heap}{a:Addr}
theorem WK{u:HO}(ok:j6 P w H h)(e:Rd H a u):bL P w H h a u:=e.ok ok
theorem Kv{kvs:List (Key×V)}(ok:j6 P w H h)(e:Rd H a (.dK kvs)):kvs.length<=sizeLine/\(a==sysModules)=false/\∃ vs,KV kvs vs/\h.DictOf (bW P w) a vs:=
 show bL P w H h a (.dK kvs) from WK ok e
theorem Wi{kvs:List (Key×V)}(ok:j6 P w H h)(e:H a=some (.dK kvs)):kvs.length<=sizeLine/\(a==sysModules)=false/\∃ vs,KV kvs vs/\h.DictOf (bW P w) a vs:=Kv ok (.inl e)
theorem Bl{ks:List Key}(ok:j6 P w H h)(e:H a=some (.tup (ks.map kV))):(tupleKind (bW P w)).is h ks a:=by
 obtain⟨_,its,r,o,h1,h2,n,h3⟩:=(show bL P w H h a (.tup (ks.map kV)) from ok a _ e);exact⟨o,its.toArray,n,h1,h2,h3,by simpa using zc r⟩
theorem Ku{kvs:List (List Key×V)}(ok:j6 P w H h)(e:Rd H a (.dT kvs)):kvs.length<=sizeLine/\(a==sysModules)=false ∧
  ∃ xs,KT H kvs xs/\h.DictOfH (tupleKind (bW P w)) a xs:=by
 obtain⟨z,y,xs,r,o,es,ep,h1,h2,h3,h4,h5⟩:=(show bL P w H h a (.dT kvs) from WK ok e);refine⟨z,y,xs,r,o,es,ep,h1,h2,h3,h4,fun x hx=>?_,h5⟩
 have all:∀ {l:List (List Key×V)} {m:List (List Key×Addr×Value)},KT H l m->∀ x∈m,(tupleKind (bW P w)).is h x.1 x.2.1:=by
  intro l m q
  induction q with
  | nil=>intro x hx;exact nomatch hx
  | @cons p q ps qs hq t ih=>
   intro x hx;rcases bI.mp hx with e | hx
   ·subst e;exact Bl ok (by rw[<-hq.1];exact hq.2.1)
   ·exact ih x hx
 exact all r x hx
theorem qDJ{kvs:List (List Key×V)}(ok:j6 P w H h)(e:H a=some (.dT kvs)):kvs.length<=sizeLine/\(a==sysModules)=false ∧
  ∃ xs,KT H kvs xs/\h.DictOfH (tupleKind (bW P w)) a xs:=Ku ok (.inl e)
end
noncomputable def Cj(H:Hp)(a:Addr)(y:V)(r:Option V):Prop:=
 (∃ kvs k,Rd H a (.dK kvs)/\y=kV k/\r=cG kvs k) ∨ ∃ kvs k b,Rd H a (.dT kvs)/\y = .ref b/\H b=some (.tup (k.map kV))/\r=cG kvs k
noncomputable def Sx(H:Hp)(a:Addr)(y v:V)(H':Hp):Prop:=
 (∃ kvs k,H a=some (.dK kvs)/\y=kV k/\kvs.length<sizeLine/\H'=upd H a (.dK (putK kvs k v))) ∨
 ∃ kvs k b,H a=some (.dT kvs)/\y = .ref b/\H b=some (.tup (k.map kV))/\kvs.length<sizeLine/\H'=upd H a (.dT (putK kvs k v))
theorem Cj.k{H:Hp}{a:Addr}{kvs:List (Key×V)}{k:Key}(e:H a=some (.dK kvs)):Cj H a (kV k) (cG kvs k):=.inl ⟨kvs,k,.inl e,rfl,rfl⟩
theorem Sx.k{H:Hp}{a:Addr}{kvs:List (Key×V)}{k:Key}{v:V}(e:H a=some (.dK kvs))(hl:kvs.length<sizeLine):Sx H a (kV k) v (upd H a (.dK (putK kvs k v))):=.inl ⟨kvs,k,e,rfl,hl,rfl⟩
section
variable{X:Cx}{pins:List (Addr×Obj)}{σ:St}{H:Hp}{s:Shared}{a:Addr}{y v:V}{u r:Value}{o:Option V}{A:Around}{E:Value->Shared->Prop}
theorem Inv.big(I:Inv X pins σ H s):sysModules<s.heap.objs.size:=by
 have h:mainGlobals<s.heap.objs.size:=(I.mod.glob.keeps I.bk).lt;exact Nat.lt_trans (by decide) h
theorem NB{Q:Value->Shared->Prop}(hu:A.units+1<cLine)(I:Inv X pins σ H s)(g:Cj H a y (some v))(ry:RelV y u)(h:∀ w' s',Inv X pins σ H s'->RelV v w'->Q w' s') :
  wpAny (model X.prog X.w) A (getItem (.ref a) u) Q E s:=by
 rcases g with ⟨kvs,k,e,ey,l⟩ | ⟨kvs,k,b,e,ey,eb,l⟩
 ·subst ey;obtain⟨z,hd,vs,rel,dd⟩:=Kv I.hok e;obtain⟨w',hw,Pq⟩:=lg.some_of (v:=v) (o:=valueAt vs k) (by rw[l];exact rel.val k);exact wpAny_getItem_of (FQ ry) dd.mapOf hw (h w' _ (I.tok _) Pq)
 ·subst ey
  cases (show u=Value.ref b from ry)
  obtain⟨z,hd,xs,rel,dd⟩:=Ku I.hok e;obtain⟨w',hw,Pq⟩:=lg.some_of (v:=v) (o:=(atKey xs k).map (·.2)) (by rw[l];exact rel.val k);obtain⟨p,hp,hp2⟩:=Option.map_eq_some_iff.mp hw;refine wpAny_getItem_heap (tupleKind_room_in1 hu) (Bl I.hok eb) dd hp ?_;rw[hp2];exact h w' _ (I.tok _) Pq
theorem Vm{Q:Value->Shared->Prop}(hu:A.units+1<cLine)(I:Inv X pins σ H s)(g:Cj H a y o)(ry:RelV y u)(h:∀ s',Inv X pins σ H s'->Q (.bool (!o.isSome)) s') :
  wpAny (model X.prog X.w) A (compareOp .NotIn u (.ref a)) Q E s:=by
 rcases g with ⟨kvs,k,e,ey,l⟩ | ⟨kvs,k,b,e,ey,eb,l⟩
 ·subst ey;obtain⟨z,hd,vs,rel,dd⟩:=Kv I.hok e;refine wpAny_notIn_of (FQ ry) hd dd.mapOf ?_;rw[<-(rel.val k).tE,<-l];exact h _ (I.tok _)
 ·subst ey
  cases (show u=Value.ref b from ry)
  obtain⟨z,hd,xs,rel,dd⟩:=Ku I.hok e;refine wpAny_notIn_heap (tupleKind_room_in1 hu) (Bl I.hok eb) hd dd ?_;have q:=(rel.val k).tE;rw[Option.isSome_map]at q;rw[<-q,<-l];exact h _ (I.tok _)
theorem uv{h':Heap}{t':Nat}{ob:HO}(I:Inv X pins σ H s)(mu:Mut (H a))(hs:Heap.SameBut a s.heap h')(he:∃ q,h'.get? a=some q)(new:bL X.prog X.w (upd H a ob) h' a ob) :
  Inv X pins σ (upd H a ob) { s with heap:=h',toks:=t' }:=
 I.write (x:=a) (e:=a) mu (.inl rfl) (fun b q hb z=>(hs.2 b hb).trans z) he new
theorem Yw{P:Program}{w:World}{H':Hp}{h':Heap}{kvs:List (Key×V)}{vs:List (Key×Value)}(z:kvs.length<=sizeLine)(hd:(a==sysModules)=false)(rel:KV kvs vs)(dd:h'.DictOf (bW P w) a vs) :
  bL P w H' h' a (.dK kvs):=⟨z,hd,vs,rel,dd⟩
theorem N8{H':Hp}{Q:Unit->Shared->Prop}(hu:A.units+1<cLine)(I:Inv X pins σ H s)(g:Sx H a y v H')(ry:RelV y u)(rv:RelV v r)(h:∀ s',Inv X pins σ H' s'->Q () s') :
  wpAny (model X.prog X.w) A (setItem (.ref a) u r) Q E s:=by
 rcases g with ⟨kvs,k,e,ey,l,eH⟩ | ⟨kvs,k,b,e,ey,eb,l,eH⟩
 ·subst ey eH;obtain⟨z,hd,vs,rel,dd⟩:=Wi I.hok e
  have hz:vs.length<=sizeLine:=by rw[<-rel.length];exact z
  have hl:(putK kvs k v).length<=sizeLine:=by have:=uB kvs k v;lia
  refine wpAny_setItem_pairs (hsz:=hz) (FQ ry) dd fun h' Rx hs=>h _ ?_;have he:∃ q,h'.get? a=some q:=let ⟨q,_,_,hq,_⟩:=Rx;⟨q,hq⟩;exact uv I (by rw[e];exact True.intro) hs he (Yw hl hd (rel.put k rv) Rx)
 ·subst ey eH
  cases (show u=Value.ref b from ry)
  obtain⟨z,hd,xs,rel,dd⟩:=qDJ I.hok e
  have hz:xs.length<=sizeLine:=by rw[<-Paired.length rel];exact z
  have hl:(putK kvs k v).length<=sizeLine:=by have:=uB kvs k v;lia
  refine wpAny_setItem_heap (hsz:=hz) (tupleKind_room_in1 hu) (Bl I.hok eb) dd fun h' Rx hs=>h _ ?_;obtain⟨q,es,ep,hq,h2,h3,h4,_,h5⟩:=Rx;refine uv I (by rw[e];exact True.intro) hs ⟨q,hq⟩ ⟨hl,hd,_,(rel.put k eb rv).keeps fun c ys ec=>?_,q,es,ep,hq,h2,h3,h4,h5⟩;rw[zQ (bz ec e (fun z=>nomatch z))];exact ec
end
section
variable{X:Cx}{pins:List (Addr×Obj)}{σ:St}{H:Hp}{s:Shared}{a:Addr}{kvs:List (Key×V)}{k:Key}{u:Value}{A:Around}{E:Value->Shared->Prop}
end
noncomputable def Z7(i:Expr):Prop:=∀ ov iv,subscripted i false ov iv=operate [ov,iv] (getItem ov iv)
theorem Je{prog:Program}{w:World}{A:Around}{E:Value->Shared->Prop}{s:Shared}{env:Env}{value slice:Expr}{pos:Pos}{T id:String}{Q:Value->Shared->Prop}
  (hl:typeLookup (.type T) "__getitem__" = pure (some (.builtin id))) (hs:Z7 slice)
  (h:wpAny (model prog w) A (eval value env) (fun o s₁=>wpAny (model prog w) A (eval slice env) (fun i s₂=>s₂.TypeIs o T/\wpAny (model prog w) A (getItem o i) Q E s₂) E s₁) E s) :
  wpAny (model prog w) A (eval (.Subscript value slice pos) env) Q E s:=by
 refine Subscript_ (wpAny_mono h (fun o s₁ h₁=>wpAny_mono h₁ (fun i s₂ h₂=>?_) fun _ _ x=>x) fun _ _ x=>x);obtain⟨hT,h₂⟩:=h₂;unfold subscriptTail;refine wpAny_bind ?_;rw[getitemInPython_of_ne hT.not_modules];refine wpAny_bind (wpAny_specialOf hT hl ?_)
 have fin:wpAny (model prog w) A (subscripted slice false o i) (fun r s₃=>wpAny (model prog w) A (letTemporaryGo value o r >>= fun _=>pure r) Q E s₃) E s₂:=by
  rw[hs o i];exact wpAny_operating (wpAny_mono h₂ (fun r s₃ h₃=>wpAny_bind (wpAny_letTemporaryGo (wpAny_pure h₃))) fun _ _ x=>x)
 first
  | exact wpAny_pure (wpAny_bind fin)
  | exact wpAny_bind (wpAny_pure (wpAny_bind fin))
  | exact wpAny_bind fin
theorem Fe{X:Cx}{pins:List (Addr×Obj)}{σ:St}{H:Hp}{s:Shared}{a:Addr}{y:V}{o:Option V}(I:Inv X pins σ H s)(g:Cj H a y o):s.TypeIs (.ref a) "dict" := by
 rcases g with ⟨kvs,k,e,_,_⟩ | ⟨kvs,k,b,e,_,_,_⟩
 ·obtain⟨_,_,vs,_,dd⟩:=Kv I.hok e;exact dd.typeIs
 ·obtain⟨_,_,xs,_,dd⟩:=Ku I.hok e;exact dd.typeIs
noncomputable def qAC(td ty:TE):TE:=fun σ H Q=>td σ H fun x H1=>ty σ H1 fun y H2 => ∃ a v,x = .ref a/\Cj H2 a y (some v)/\Q v H2
noncomputable def Tq(ty td:TE):TE:=fun σ H Q=>ty σ H fun y H1=>td σ H1 fun x H2 => ∃ a o,x = .ref a/\Cj H2 a y o/\Q (.bl (!o.isSome)) H2
noncomputable def qAR(td ty tv:TE):TS:=fun D σ H=>tv σ H fun v H1=>td σ H1 fun x H2=>ty σ H2 fun y H3 => ∃ a H4,x = .ref a/\Sx H3 a y v H4/\D.nx σ H4
section
variable{X:Cx}{o i e value:Expr}{pos pos' tpos:Pos}{td ty tv:TE}
theorem Um(hu:X.A.units+1<cLine)(ho:PE X o td)(hi:PE X i ty)(hs:Z7 i):PE X (.Subscript o i pos) (qAC td ty):=by
 intro pins s σ H Q I h;refine Je PySem.F.slot_dict_getitem.lookup hs (au (ho pins s σ H _ I h) fun u s1 ⟨x,H1,I1,rx,q1⟩=>au (hi pins s1 σ H1 _ I1 q1) fun iv s2 hz_=>?_);refine aJ fun G_ g_=>?_;obtain⟨y,H2,I2,ry,a,v,ex,g,q2⟩:=hz_;apply g_;clear g_ G_;subst ex;obtain rfl:u=Value.ref a:=rx;exact⟨Fe I2 g,NB hu I2 g ry fun w' s3 I3 Pq=>⟨v,H2,I3,Pq,q2⟩⟩
theorem M4(hu:X.A.units+1<cLine)(hi:PE X i ty)(ho:PE X o td):PC X .NotIn i o (Tq ty td):=by
 intro pins s σ H Q I h;refine au (hi pins s σ H _ I h) fun iv s1 ⟨y,H1,I1,ry,q1⟩=>au (ho pins s1 σ H1 _ I1 q1) fun u s2 ⟨x,H2,I2,rx,a,ov,ex,g,q2⟩=>?_;subst ex;obtain rfl:u=Value.ref a:=rx;exact Vm hu I2 g ry fun s3 I3=>⟨.bl (!ov.isSome),H2,I3,rfl,q2⟩
theorem Ue(hu:X.A.units+1<cLine)(ho:PE X o td)(hi:PE X i ty)(hv:PE X value tv)(hs:swapsWith value (some (.Subscript o i pos')) pos.line X.env=pure false) :
  PS X (.Assign [.Subscript o i pos'] value pos) (qAR td ty tv):=by
 intro pins s σ H D I h;refine wpAny_Assign_Subscript (au (hv pins s σ H _ I h) fun r s1 ⟨v,H1,I1,rv,q1⟩=>au (ho pins s1 σ H1 _ I1 q1) fun u s2 ⟨x,H2,I2,rx,q2⟩=>au (hi pins s2 σ H2 _ I2 q2) fun iv s3 hz_=>?_) hs;refine aJ fun G_ g_=>?_;obtain⟨y,H3,I3,ry,a,H4,ex,g,q3⟩:=hz_;apply g_;clear g_ G_;subst ex;obtain rfl:u=Value.ref a:=rx;exact N8 hu I3 g ry rv fun s4 I4=>⟨σ,H4,I4,q3⟩
end
theorem Rp{P:Program}{w:World}{H:Hp}(h:Heap)(hb:sysModules<h.objs.size):bL P w H (h.push { cls:=.type "dict",data:=.dict #[] }) h.objs.size (.dK []):=
 ⟨Nat.zero_le _,beq_eq_false_iff_ne.mpr (Ne.symm (kI hb)),[],.nil,Heap.DictOf.new h⟩
noncomputable def X6:TE:=fun _ H Q => ∀ p,H p=none->Q (.ref p) (upd H p (.dK []))
section
variable{X:Cx}{pos:Pos}
theorem QF:PE X (.Dict [] [] pos) X6:=fun pins s σ H Q I h=>
 wpAny_Dict_empty ⟨.ref s.heap.objs.size,_,I.laid (a:=s.heap.objs.size) (o:=.dK []) (t':=s.toks) (fun _ _ q=>j5 _ q) (bM _) (Rp s.heap I.big),rfl,h _ (I.hok.fresh (bM _))⟩
end
structure M1(X:Cx)(o:Expr)(m:Str)(apos:Pos)(e:Expr)(cpos:Pos):Prop where
 base:attributeBase o m X.env (eval o X.env)=eval o X.env
 few:((backTo cpos (starEach [e] X.env)).all (fun x => !x.1)&&(backToKw cpos (keywordEach [] X.env)).all (fun x=>x.1.isSome)
  && decide (([e]:List Expr).length+([]:List Keyword).length+(if ([]:List Keyword).isEmpty then 0 else 1)<30))=true
 line:(apos.endLine==cpos.line)=true
 trees:backTo cpos (starEach [e] X.env)=[(false,eval e X.env)]
structure M2(X:Cx)(o:Expr)(m:Str)(apos:Pos)(e f:Expr)(cpos:Pos):Prop where
 base:attributeBase o m X.env (eval o X.env)=eval o X.env
 few:((backTo cpos (starEach [e,f] X.env)).all (fun x => !x.1)&&(backToKw cpos (keywordEach [] X.env)).all (fun x=>x.1.isSome)
  && decide (([e,f]:List Expr).length+([]:List Keyword).length+(if ([]:List Keyword).isEmpty then 0 else 1)<30))=true
 line:(apos.endLine==cpos.line)=true
 trees:backTo cpos (starEach [e,f] X.env)=[(false,eval e X.env),(false,eval f X.env)]
section
variable{X:Cx}{pins:List (Addr×Obj)}{σ:St}{H:Hp}{s:Shared}{a:Addr}{y d:V}{u r:Value}{o:Option V}{A:Around}{E:Value->Shared->Prop}
end
section
variable{X:Cx}{o e f:Expr}{apos cpos:Pos}{td ty tx:TE}
end
section
variable{X:Cx}{pins:List (Addr×Obj)}{σ:St}{H:Hp}{s:Shared}{a:Addr}{kvs:List (Key×V)}{A:Around}{E:Value->Shared->Prop}
end
section
variable{X:Cx}{pins:List (Addr×Obj)}{σ:St}{H:Hp}{s:Shared}{a:Addr}{y:V}{u:Value}{A:Around}{E:Value->Shared->Prop}
end
end L2
namespace So
open PySem PyProof.Rows
set_option maxRecDepth 100000
section
variable{prog:Program}{w:World}{A:Around}{E:Value->Shared->Prop}{s:Shared}
theorem Gw{T:String}{o:Obj}{p:Addr}{its:List Value}{ns:List Int}{n:Nat}{Q:Value->Shared->Prop}(hT:T = "list" ∨ T = "tuple")(ho:s.heap.get? p=some o)(hc:o.cls = .type T)(hd:o.data = .seq its.toArray n)(hI:IntsAre its ns)(h64:its.length<64)
  (fin:∀(h1 h':Heap)(q:Addr)(out:Array Value)(rs:List Int)(e:Nat),IntsAre out.toList rs->rs.Perm ns->rs.Pairwise (· <= ·)->h1.objs.size<=q->h'.get? q=some (seqObj "list" out e)->(∀ b o,s.heap.get? b=some o->h1.get? b=some o)->(∀ b o,h1.get? b=some o->h'.get? b=some o)->Q (.ref q) { s with heap:=h' }) :
  wpAny (model prog w) A (call (.builtin "sorted") [.ref p]) Q E s:=by
 refine Calls.call_function_entry kind_sorted plain_sorted entry_sorted (args_sorted1 _) ?_;unfold Builtin.«sorted»;refine wpAny_bind (m:=checkCount "sorted" 1 1 _) (wpAny_pure ?_);refine wpAny_bind (wpAny_collect_seq p hT ho hc hd (fun h1 k1=>?_) (by rw[xf,sizeLine_eq];lia));refine wpAny_bind (wpAny_newList ?_ (by show its.length<=_;rw[sizeLine_eq];lia));have g1:(h1.push (seqObj "list" its.toArray 0)).get? h1.objs.size=some (seqObj "list" its.toArray 0):=xJ _ rfl;refine wpAny_bind (wpAny_holding (wpAny_call_entry slot_list_sort ⟨_,g1,rfl⟩ entry_list_sort (list_sort_tree (s:={ s with heap:=h1.push (seqObj "list" its.toArray 0) }) g1 hI h64 fun out ns' a1 a2 a3=>⟨_,rfl,?_⟩) (args_list_sort _)));obtain⟨e,he⟩:=sortedHeap_at (out:=out) g1;refine wpAny_pure ⟨_,rfl,fin h1 _ h1.objs.size out ns' e a1 a2 a3 (bM _) he k1 fun b ob hb=>?_⟩;have lb:b<h1.objs.size:=gP hb;rw[sortedHeap_old (kI lb) (by rw[Heap.size_push];exact Nat.lt_succ_of_lt lb)];exact j5 _ hb
theorem vI{T:String}{o:Obj}{p:Addr}{its:List Value}{ns:List Int}{n:Nat}{Q:Value->Shared->Prop}(hT:T = "list" ∨ T = "tuple")(ho:s.heap.get? p=some o)(hc:o.cls = .type T)(hd:o.data = .seq its.toArray n)(hI:IntsAre its ns)(h64:its.length<64)
  (fin:∀(h1 h':Heap)(q:Addr)(out:Array Value)(rs:List Int)(e:Nat),IntsAre out.toList rs->rs.Perm ns->rs.Pairwise (· ≥ ·)->h1.objs.size<=q->h'.get? q=some (seqObj "list" out e)->(∀ b o,s.heap.get? b=some o->h1.get? b=some o)->(∀ b o,h1.get? b=some o->h'.get? b=some o)->Q (.ref q) { s with heap:=h' }) :
  wpAny (model prog w) A (call (.builtin "sorted") [.ref p] [(Str.ofString "reverse",.bool true)]) Q E s:=by
 refine call_function_entry_kw kind_sorted plain_sorted entry_sorted (args_sorted_rev _ _) ?_;unfold Builtin.«sorted»;refine wpAny_bind (m:=checkCount "sorted" 1 1 _) (wpAny_pure ?_);refine wpAny_bind (wpAny_collect_seq p hT ho hc hd (fun h1 k1=>?_) (by rw[xf,sizeLine_eq];lia));refine wpAny_bind (wpAny_newList ?_ (by show its.length<=_;rw[sizeLine_eq];lia));have g1:(h1.push (seqObj "list" its.toArray 0)).get? h1.objs.size=some (seqObj "list" its.toArray 0):=xJ _ rfl;refine wpAny_bind (wpAny_holding (wpAny_call_entry_kw slot_list_sort ⟨_,g1,rfl⟩ entry_list_sort (list_sort_tree_rev (b:=true) (s:={ s with heap:=h1.push (seqObj "list" its.toArray 0) }) g1 hI h64 fun out ns' a1 a2 a3=>⟨_,rfl,?_⟩) (args_list_sort_rev _ _)));obtain⟨e,he⟩:=sortedHeap_at (out:=out) g1;refine wpAny_pure ⟨_,rfl,fin h1 _ h1.objs.size out ns' e a1 a2 a3 (bM _) he k1 fun b ob hb=>?_⟩;have lb:b<h1.objs.size:=gP hb;rw[sortedHeap_old (kI lb) (by rw[Heap.size_push];exact Nat.lt_succ_of_lt lb)];exact j5 _ hb
end
end So
namespace L2
open PySem PySem.Spec PyProof.Rows
section
variable{X:Cx}
noncomputable def K6(K:bO)(le:Int->Int->Prop):List V->Hp->VK->Prop:=fun xs H Q => ∃(p:Addr)(ns:List Int),xs=[.ref p]/\(aQ K H p (ns.map V.int)∨aK K H p (ns.map V.int))/\ns.length<64/\∀(q:Addr)(rs:List Int),H q=none->rs.Perm ns->rs.Pairwise le->Q (.ref q) (upd H q (.lst (rs.map V.int)))
theorem Inv.Pb{pins:List (Addr×Obj)}{σ:St}{H:Hp}{s:Shared}{p:Addr}{ns:List Int}(I:Inv X pins σ H s)(h:aQ X.K H p (ns.map V.int)∨aK X.K H p (ns.map V.int)) :
  ∃(T:String)(o:Obj)(its:List Value)(n:Nat),(T = "list" ∨ T = "tuple")/\s.heap.get? p=some o/\o.cls = .type T/\o.data = .seq its.toArray n/\IntsAre its ns:=by
 rcases h with h | h
 ·obtain⟨its,r,pl,_⟩:=I.list h;obtain⟨o,ho,hc,n,hd⟩:=pl.isList;exact⟨"list",o,its,n,.inl rfl,ho,hc,hd,intsAre_of r⟩
 ·obtain⟨its,r,pl,_⟩:=I.tuple h;obtain⟨o,ho,hc,n,hd⟩:=pl;exact⟨"tuple",o,its,n,.inr rfl,ho,hc,hd,intsAre_of r⟩
theorem n6:jz X (.builtin "sorted") (K6 X.K (· <= ·)):=by
 intro pins s σ H xs us Q I r h;obtain⟨p,ns,rfl,hq,h64,q⟩:=h;obtain⟨u,rfl,rx⟩:=vals1 r
 cases rx
 obtain⟨T,o,its,n,hT,ho,hc,hd,hI⟩:=I.Pb hq;have hl:=hI.length;refine So.Gw hT ho hc hd hI (by lia) fun h1 h' q' out rs e i1 i2 i3 i4 i5 i6 i7=>?_;have J:Inv X pins σ H { s with heap:=h1 }:=I.kept (t':=s.toks) i6;have lr:=i2.length_eq
 have i5':h'.get? q'=some { cls:=.type "list",data:=.seq out.toList.toArray e }:=by
  rw[i5]
 exact⟨.ref q',_,J.laid (h':=h') (t':=s.toks) (o:=.lst (rs.map V.int)) i7 i4 ⟨by rw[bZ];exact zI (by lia),out.toList,e,jf i1,i5'⟩,rfl,q q' rs (J.hok.fresh i4) i2 i3⟩
noncomputable def X5(K:bO)(t:TA):TE:=fun σ H Q=>t σ H fun vs H1=>K6 K (· ≥ ·) vs H1 Q
theorem vh{a:Expr}{t:TA}{p1 pos kp pd:Pos}{j:Nat}(hg:Gl X "sorted")(hm:X.mg "sorted" = none)(ha:PA X [a] t)(he:starEach [a] X.env=[(false,eval a X.env)]:=by rfl) :
  PE X (.Call (.Name "sorted" p1) [a] [⟨some "reverse",.Constant (.bool true) j pd,kp⟩] pos) (X5 X.K t):=by
 intro pins s σ H Q I h;refine wpAny_Call_Name_kw (mY I hg hm PyProof.Rows.boot_sorted ?_);refine PyProof.Rows.callWith_kw (au (ha pos pins s σ H _ I h) fun us s1 ⟨vs,H1,I1,r1,q1⟩=>?_) (by rw[he];rfl) (by rw[he];rfl) rfl rfl;refine PyProof.Rows.kws_cons (wpAny_Constant_bool (PyProof.Rows.kws_nil ?_));obtain⟨p,ns,rfl,hq,h64,q⟩:=q1;obtain⟨u,rfl,rx⟩:=vals1 r1
 cases rx
 obtain⟨T,o,its,n,hT,ho,hc,hd,hI⟩:=I1.Pb hq;have hl:=hI.length;refine So.vI hT ho hc hd hI (by lia) fun h1 h' q' out rs e i1 i2 i3 i4 i5 i6 i7=>?_;have J:Inv X pins σ H1 { s1 with heap:=h1 }:=I1.kept (t':=s1.toks) i6;have lr:=i2.length_eq
 have i5':h'.get? q'=some { cls:=.type "list",data:=.seq out.toList.toArray e }:=by
  rw[i5]
 exact⟨.ref q',_,J.laid (h':=h') (t':=s1.toks) (o:=.lst (rs.map V.int)) i7 i4 ⟨by rw[bZ];exact zI (by lia),out.toList,e,jf i1,i5'⟩,rfl,q q' rs (J.hok.fresh i4) i2 i3⟩
end
theorem gA:∀(a b:List Nat),a.Pairwise (· < ·)->b.Pairwise (· < ·)->(∀ k,k∈a↔k∈b)->a=b
 | [],[],_,_,_=>rfl
 | [],y::b,_,_,h=>absurd ((h y).mpr List.mem_cons_self) (by simp)
 | x::a,[],_,_,h=>absurd ((h x).mp List.mem_cons_self) (by simp)
 | x::a,y::b,ha,hb,h=>by
  obtain⟨a1,a2⟩:=List.pairwise_cons.mp ha;obtain⟨b1,b2⟩:=List.pairwise_cons.mp hb
  have e:x=y:=by
   have h1:=(h x).mp Cu;have h2:=(h y).mpr Cu;rcases bI.mp h1 with e | h1
   ·exact e
   ·rcases bI.mp h2 with e | h2
    ·exact e.symm
    ·have:=a1 y h2;have:=b1 x h1;lia
  subst e;congr 1;refine gA a b a2 b2 fun k=>?_;have hk:=h k;rw[bI,bI]at hk;constructor
  ·intro z;rcases hk.mp (.inr z) with e | z'
   ·subst e;have:=a1 k z;lia
   ·exact z'
  ·intro z;rcases hk.mpr (.inr z) with e | z'
   ·subst e;have:=b1 k z;lia
   ·exact z'
theorem yu:∀ os:List Nat,os.map (Int.toNat ∘ fun j:Nat=>(j:Int))=os
 | []=>rfl
 | x::l=>by
  rw[List.map_cons,yu l];rfl
theorem yh{rs:List Int}{os:List Nat}(h:rs.Perm (os.map fun j:Nat=>(j:Int))):∃ ms:List Nat,rs=ms.map (fun j:Nat=>(j:Int))/\ms.Perm os:=by
 refine⟨rs.map Int.toNat,?_,?_⟩
 ·rw[List.map_map]
  have:∀ x∈rs,((fun j:Nat=>(j:Int)) ∘ Int.toNat) x=x:=fun x hx=>by
   obtain⟨o,_,rfl⟩:=eQ.mp (h.mem_iff.mp hx);rfl
  rw[List.map_congr_left this,List.map_id']
 ·have:=h.map Int.toNat;rw[List.map_map]at this;rw[yu]at this;exact this
theorem cR(os:List Nat):(os.map fun j:Nat=>V.int (j:Int))=(os.map fun j:Nat=>(j:Int)).map V.int:=by
 rw[List.map_map];rfl
theorem mD{rs:List Int}{os:List Nat}(h:rs.Perm (os.map fun j:Nat=>(j:Int)))(hs:rs.Pairwise (· <= ·))(hn:os.Nodup):∃ ms:List Nat,rs=ms.map (fun j:Nat=>(j:Int))/\ms.Pairwise (· < ·)/\ms.Perm os:=by
 obtain⟨ms,rfl,hp⟩:=yh h;refine⟨ms,rfl,?_,hp⟩;have nd:ms.Nodup:=hp.nodup_iff.mpr hn;rw[List.pairwise_map]at hs
 exact (hs.and nd).imp fun ⟨h1,h2⟩=>by lia
theorem tW{rs:List Int}{os:List Nat}(h:rs.Perm (os.map fun j:Nat=>(j:Int)))(hs:rs.Pairwise (· ≥ ·))(hn:os.Pairwise (· < ·)):rs=os.reverse.map (fun j:Nat=>(j:Int)):=by
 obtain⟨ms,rfl,hp⟩:=yh h;congr 1;have nd:ms.Nodup:=hp.nodup_iff.mpr (hn.imp fun z=>kI z);rw[List.pairwise_map]at hs
 have hm:ms.reverse.Pairwise (· < ·):=by
  rw[List.pairwise_reverse]
  exact (hs.and nd).imp fun ⟨h1,h2⟩=>by lia
 have e:=gA ms.reverse os hm hn fun k=>by rw[List.mem_reverse];exact hp.mem_iff
 rw[<-e,List.reverse_reverse]
end L2
namespace So
open PySem PyProof.Rows
set_option maxRecDepth 100000
theorem Ve:typeLookup (.type "dict") "__len__" = pure (some (.builtin "dict.__len__")):=by rw[typeLookup_type,builtinLookup_eq_fast];kernel_rfl
theorem uE:∀ {vs:List Value} {ns:List Int},vs.length=ns.length->(∀(i:Nat)(n:Int),ns[i]? = some n->∃ t,vs[i]? = some (Value.int n t))->IntsAre vs ns
 | [],[],_,_=>.nil
 | [],n::ns,h,_=>by simp at h
 | v::vs,[],h,_=>by simp at h
 | v::vs,n::ns,h,k=>by
  obtain⟨t,ht⟩:=k 0 n rfl
  have e:v=Value.int n t:=by simpa using ht
  subst e;exact .cons n t (uE (by simpa using h) fun i m hi=>by simpa using k (i+1) m (by simpa using hi))
section
variable{prog:Program}{w:World}{A:Around}{E:Value->Shared->Prop}{s:Shared}{a:Addr}
theorem Fj{kvs:List (L2.Key×Value)}{ns:List Int}{Q:List Value->Shared->Prop}(hh:A.handled=none)(hd:(a==sysModules)=false)(hD:s.heap.DictOf (L2.bW prog w) a kvs)(hk:kvs.map (·.1)=ns.map Sum.inl)(hn:ns.length<=1000)
  (fin:∀(h':Heap)(vs:List Value)(tk:Nat),IntsAre vs ns->(∀ b o,s.heap.get? b=some o->h'.get? b=some o)->Q vs { s with heap:=h',toks:=tk }) :
  wpAny (model prog w) A (collect (.ref a)) Q E s:=by
 have lk:kvs.length=ns.length:=by
  have:=congrArg List.length hk
  simpa using this
 obtain⟨o,es,ep,ho,rest⟩:=hD;have hc:=rest.1;have la:a<s.heap.objs.size:=gP ho;have hA:s.heap.DictAt (L2.bW prog w) a kvs ep:=⟨o,es,ho,rest⟩;unfold collect;refine wpAny_bind (wpAny_runValue (codeAny_builtin F.entry_proto_collect ?_));rw[Around.under_plainId F.plain_proto_collect _];show wpAny _ A.in1 (newList [] >>= fun l=>again (.builtin "list.__iadd__" ⟨[l,.ref a],[]⟩)) _ _ s;refine wpAny_bind (wpAny_newObj_type ?_);refine wpAny_pure ⟨plainId_quiet F.plain_list_iadd _,codeAny_builtin F.entry_list_iadd ?_⟩;rw[Around.under_plainId F.plain_list_iadd _];have g0:(s.heap.push { cls:=.type "list",data:=.seq ([]:List Value).toArray }).get? s.heap.objs.size=some { cls:=.type "list",data:=.seq ([]:List Value).toArray }:=xJ s.heap rfl
 have other:Builtin.List.listSameRef (.ref s.heap.objs.size) (.ref a)=false:=by simp [Builtin.List.listSameRef];exact Nat.ne_of_gt la
 have hA1:=hA.at' (h':=s.heap.push { cls:=.type "list",data:=.seq ([]:List Value).toArray }) fun o e=>j5 _ e;have ty1:Shared.TypeIs { s with heap:=s.heap.push { cls:=.type "list",data:=.seq ([]:List Value).toArray } } (.ref a) "dict" := hA1.dictOf.typeIs;show wpAny _ A.in1 (Builtin.List.listExtendWith (.ref s.heap.objs.size) (.ref a) (.ref s.heap.objs.size)) _ _ _;unfold Builtin.List.listExtendWith;refine wpAny_bind (wpAny_typeOf ty1 ?_);rw[if_neg (by rw[other];decide)];refine wpAny_bind (wpAny_pyIter_dict hd hA1 ?_);generalize eo:({ cls:=.type "dict_keyiterator",data:=.fields #[.ref a,.int 0 0,.int kvs.length 0,.int ep 0] }:Obj)=oi;generalize eh:(s.heap.push { cls:=.type "list",data:=.seq ([]:List Value).toArray }).push oi=h2;have sz1:(s.heap.push { cls:=.type "list",data:=.seq ([]:List Value).toArray }).objs.size=s.heap.objs.size+1:=Heap.size_push _ _
 have R1:∀ b ob,(s.heap.push { cls:=.type "list",data:=.seq ([]:List Value).toArray }).get? b=some ob->h2.get? b=some ob:=fun b ob e=>by
  rw[<-eh];exact j5 _ e
 have gI:h2.get? (s.heap.push { cls:=.type "list",data:=.seq ([]:List Value).toArray }).objs.size=some oi:=by
  rw[<-eh,<-eo];exact xJ _ rfl
 rw[show (s.heap.push { cls:=.type "list",data:=.seq ([]:List Value).toArray }).objs.size=s.heap.objs.size+1 from sz1]at gI ⊢;have g2:=R1 _ _ g0;have Wf:=hA1.at' (h':=h2) fun o e=>R1 _ _ e;have ty2:Shared.TypeIs { s with heap:=h2 } (.ref a) "dict" := Wf.dictOf.typeIs;refine wpAny_bind (wpAny_holding ?_);unfold Builtin.List.listLengthHint;refine wpAny_bind (wpAny_specialOf ty2 Ve ?_)
 (generalize hid:("dict.__len__" : String)=id0;(fail_if_success (clear hid id0));wp_delta;rw[show splitId id0=some ("dict","__len__") from by subst hid;decide +kernel])
 refine wpAny_bind (wpAny_isInstance (b:=true) ty2 (by rw[isSubtype_type];kernel_rfl) ?_);subst hid;show wpAny _ A.in1 (typeOf (.ref a) >>= _) _ _ _;refine wpAny_bind (wpAny_typeOf ty2 ?_);refine wpAny_pure ?_;rw[if_pos (by decide)];refine wpAny_bind (wpAny_rule (wpAny_bind ?_));show wpAny _ A.in1 (updateSeq s.heap.objs.size (·.push .none) >>= fun _=>updateSeq s.heap.objs.size (·.pop)) _ _ _;refine wpAny_bind (wpAny_updateSeq g2 rfl ?_);have g3:=Heap.get?_update_self (Obj.mapSeq (·.push Value.none)) g2 rfl;refine wpAny_updateSeq g3 rfl ?_;have g4:=Heap.get?_update_self (Obj.mapSeq (·.pop)) g3 rfl;have Wa:∀ b ob,b≠s.heap.objs.size->h2.get? b=some ob->((h2.update s.heap.objs.size (Obj.mapSeq (·.push Value.none))).update s.heap.objs.size (Obj.mapSeq (·.pop))).get? b=some ob:=fun b ob hb e=>(Heap.get?_update_other _ _ (Ne.symm hb)).trans ((Heap.get?_update_other _ _ (Ne.symm hb)).trans e)
 have qB4:s.heap.objs.size∉[s.heap.objs.size+1,a]:=by
  simp only[List.mem_cons,List.not_mem_nil,or_false,not_or];exact⟨by lia,Nat.ne_of_gt la⟩
 have W:=(Walks.dictKeys (prog:=prog) (w:=w) (knd:=L2.bW prog w) (A:=A.in1) (by simp [hh]) (s.heap.objs.size+1) a (Nat.ne_of_lt (Nat.lt_succ_of_lt la)) kvs ep).toS;have it2:h2.IsKeyIter (s.heap.objs.size+1) a 0 kvs.length ep:=⟨oi,gI,by rw[<-eo],by rw[<-eo];rfl⟩;have xM:=W.frame 0 { s with heap:=h2 } ((h2.update s.heap.objs.size (Obj.mapSeq (·.push Value.none))).update s.heap.objs.size (Obj.mapSeq (·.pop))) s.toks ⟨it2,Wf⟩ (bM _) fun b hb ob e=>Wa b ob (fun z=>qB4 (z▸hb)) e;refine wpAny_pure ⟨plainId_quiet F.plain_extend_loop _,codeAny_extend_loopS W (by rw[lk,sizeLine_eq];lia) _ qB4 _ kvs.length 0 _ _ _ rfl (Nat.zero_le _) xM g4 (ItemsOf.nil _) fun s' acc' c' hm hS' hacc=>?_⟩;show wpAny _ A (load s.heap.objs.size >>= _) _ _ s';refine wpAny_bind (wpAny_load hS' ?_);have e1:s'.gens=s.gens:=hm.gens;have e2:s'.drawn=s.drawn:=hm.drawn;have e3:s'.os=s.os:=hm.os;obtain⟨h',g',d',tk',os'⟩:=s';have e1':g'=s.gens:=e1;have e2':d'=s.drawn:=e2;have e3':os'=s.os:=e3;subst e1' e2' e3';refine wpAny_pure ?_;refine fin h' acc'.toList tk' (uE (by rw[Array.length_toList,hacc.1,lk]) fun i n hi=>?_) fun b ob e=>?_
 ·have li:i<acc'.size:=by
   have:=(lQ.mp hi).1;rw[hacc.1,lk];exact this
  obtain⟨k,x,hx,his⟩:=hacc.2 i acc'[i] (by simp [li])
  have hk':(kvs.map (·.1))[i]? = some k:=by rw[gf,hx];rfl
  rw[hk,gf,hi]at hk';have ek:Sum.inl n=k:=jO hk';subst ek;obtain⟨tk,e5⟩:=Value.isInt_shape (k:=n) (v:=acc'[i]) his;exact⟨tk,by simp [li,e5]⟩
 ·have lb:b<s.heap.objs.size:=gP e;refine hm.heap b ob ?_ (Wa b ob (kI lb) (R1 b ob (j5 _ e)));simp only[List.mem_cons,List.not_mem_nil,or_false,not_or];exact⟨kI lb,kI (Nat.lt_succ_of_lt lb)⟩
theorem Gx{kvs:List (L2.Key×Value)}{ns:List Int}{Q:Value->Shared->Prop}(hh:A.handled=none)(hd:(a==sysModules)=false)(hD:s.heap.DictOf (L2.bW prog w) a kvs)(hk:kvs.map (·.1)=ns.map Sum.inl)(h64:ns.length<64)
  (fin:∀(h1 h':Heap)(tk:Nat)(q:Addr)(out:Array Value)(rs:List Int)(e:Nat),IntsAre out.toList rs->rs.Perm ns->rs.Pairwise (· <= ·)->h1.objs.size<=q->h'.get? q=some (seqObj "list" out e)->(∀ b o,s.heap.get? b=some o->h1.get? b=some o)->(∀ b o,h1.get? b=some o->h'.get? b=some o)->Q (.ref q) { s with heap:=h',toks:=tk }) :
  wpAny (model prog w) A (call (.builtin "sorted") [.ref a]) Q E s:=by
 refine Calls.call_function_entry kind_sorted plain_sorted entry_sorted (args_sorted1 _) ?_;unfold Builtin.«sorted»;refine wpAny_bind (m:=checkCount "sorted" 1 1 _) (wpAny_pure ?_);refine wpAny_bind (Fj (by first | exact hh | simp [hh]) hd hD hk (by lia) fun h1 vs tk i1 k1=>?_);have hl:=i1.length;refine wpAny_bind (wpAny_newList ?_ (by rw[hl,sizeLine_eq];lia));have g1:(h1.push (seqObj "list" vs.toArray 0)).get? h1.objs.size=some (seqObj "list" vs.toArray 0):=xJ _ rfl;refine wpAny_bind (wpAny_holding (wpAny_call_entry slot_list_sort ⟨_,g1,rfl⟩ entry_list_sort (list_sort_tree (s:={ s with heap:=h1.push (seqObj "list" vs.toArray 0),toks:=tk }) g1 i1 (by lia) fun out ns' a1 a2 a3=>⟨_,rfl,?_⟩) (args_list_sort _)));obtain⟨e,he⟩:=sortedHeap_at (out:=out) g1;refine wpAny_pure ⟨_,rfl,fin h1 _ tk h1.objs.size out ns' e a1 a2 a3 (bM _) he k1 fun b ob hb=>?_⟩;have lb:b<h1.objs.size:=gP hb;rw[sortedHeap_old (kI lb) (by rw[Heap.size_push];exact Nat.lt_succ_of_lt lb)];exact j5 _ hb
end
end So
namespace L2
open PySem PySem.Spec PyProof.Rows
section
variable{X:Cx}
noncomputable def Q3:List V->Hp->VK->Prop:=fun xs H Q => ∃(p:Addr)(kvs:List (Key×V))(ns:List Int),xs=[.ref p]/\H p=some (.dK kvs)/\kvs.map (·.1)=ns.map Sum.inl/\ns.length<64/\∀(q:Addr)(rs:List Int),H q=none->ns.Nodup->rs.Perm ns->rs.Pairwise (· <= ·)->Q (.ref q) (upd H q (.lst (rs.map V.int)))
theorem By(hca:X.calm=true):jz X (.builtin "sorted") Q3:=by
 intro pins s σ H xs us Q I r h;obtain⟨p,kvs,ns,rfl,hq,hk,h64,q⟩:=h;obtain⟨u,rfl,rx⟩:=vals1 r
 cases rx
 obtain⟨z,hd,vs,rel,dd⟩:=Wi I.hok hq
 have hk':vs.map (·.1)=ns.map Sum.inl:=by rw[<-rel.keys,hk]
 have nd:ns.Nodup:=by
  obtain⟨ep,hA⟩:=dd.dictAt;have h1:=hA.nodup;rw[hk']at h1;exact (List.pairwise_map.mp h1).imp fun z e=>z (by rw[e])
 refine So.Gx (I.ok.hd hca) hd dd hk' h64 fun h1 h' tk q' out rs e i1 i2 i3 i4 i5 i6 i7=>?_;have J:Inv X pins σ H { s with heap:=h1 }:=I.kept (t':=s.toks) i6;have lr:=i2.length_eq
 have i5':h'.get? q'=some { cls:=.type "list",data:=.seq out.toList.toArray e }:=by
  rw[i5]
 exact⟨.ref q',_,J.laid (h':=h') (t':=tk) (o:=.lst (rs.map V.int)) i7 i4 ⟨by rw[bZ];exact zI (by lia),out.toList,e,jf i1,i5'⟩,rfl,q q' rs (J.hok.fresh i4) nd i2 i3⟩
end
end L2
namespace PySem
open Sem (wp)
open AutoSeq1 (wpAny_loadPart')
set_option maxRecDepth 100000
section
variable{prog:Program}{w:World}{A:Around}{E:Value->Shared->Prop}{s:Shared}
theorem Bf{q tt:Addr}{i:Nat}{vs:Array Value}{x:Value}{Q:Value->Shared->Prop}(g:s.heap.IsTupleIter q tt i)(gt:s.heap.IsTuple tt vs)(gx:vs[i]? = some x)
  (hQ:∀ h',h'.IsTupleIter q tt (i+1)->Heap.SameBut q s.heap h'->Q x { s with heap:=h' }):wpAny (model prog w) A (Builtin.SmallTypes.nextOf (.ref q)) Q E s:=by
 obtain⟨ob,go,gc,gd⟩:=id g;obtain⟨ot,got,_,nt,gdt⟩:=gt;unfold Builtin.SmallTypes.nextOf;refine wpAny_bind (wpAny_callSpecial?_slot (name:=Str.ofString "__next__") g.typeIs F.slot_tuple_iterator_next (wpAny_call_entry F.slot_tuple_iterator_next g.typeIs F.entry_tuple_iterator_next ?_ (F.args_tuple_iterator_next_1 _)));show wpAny _ _ (field (.ref q) 0 >>= _) _ _ s;refine wpAny_bind (wpAny_field go gd (x:=.ref tt) rfl ?_);show wpAny _ _ (if (Value.ref tt==Value.none)=true then _ else _) _ _ s;rw[if_neg (show ¬ ((Value.ref tt==Value.none)=true) from pZ)];show wpAny _ _ (field (.ref q) 1 >>= _) _ _ s;refine wpAny_bind (wpAny_field go gd (x:=.int i 0) rfl ?_);show wpAny _ _ (seqItems? (.ref tt) >>= _) _ _ s;refine wpAny_bind (wpAny_seqItems got gdt ?_);simp only[Int.toNat_natCast,gx];refine wpAny_bind (wpAny_setField go gd (by simp) (wpAny_pure ⟨x,rfl,wpAny_pure (hQ _ ?_ (Heap.SameBut.update ..))⟩));exact⟨_,Heap.get?_update_self _ go (Obj.isFreed_of_fields (Obj.data_mapFields gd _)),(Obj.cls_mapFields ..).trans gc,by rw[Obj.data_mapFields gd];simp [rawInt]⟩
theorem uA{q tt:Addr}{i:Nat}{vs:Array Value}{Q:Value->Shared->Prop}(hh:A.handled=none)(g:s.heap.IsTupleIter q tt i)(gt:s.heap.IsTuple tt vs)(gx:vs[i]? = none)
  (hE:∀ h' e,Heap.ExtBut q s.heap h'->(∃ o,h'.get? e=some o/\o.cls = .type "StopIteration")->E (.ref e) { s with heap:=h' }):wpAny (model prog w) A (Builtin.SmallTypes.nextOf (.ref q)) Q E s:=by
 obtain⟨ob,go,gc,gd⟩:=id g;obtain⟨ot,got,_,nt,gdt⟩:=gt;unfold Builtin.SmallTypes.nextOf;refine wpAny_bind (wpAny_callSpecial?_slot (name:=Str.ofString "__next__") g.typeIs F.slot_tuple_iterator_next (wpAny_call_entry F.slot_tuple_iterator_next g.typeIs F.entry_tuple_iterator_next ?_ (F.args_tuple_iterator_next_1 _)));show wpAny _ _ (field (.ref q) 0 >>= _) _ _ s;refine wpAny_bind (wpAny_field go gd (x:=.ref tt) rfl ?_);show wpAny _ _ (if (Value.ref tt==Value.none)=true then _ else _) _ _ s;rw[if_neg (show ¬ ((Value.ref tt==Value.none)=true) from pZ)];show wpAny _ _ (field (.ref q) 1 >>= _) _ _ s;refine wpAny_bind (wpAny_field go gd (x:=.int i 0) rfl ?_);show wpAny _ _ (seqItems? (.ref tt) >>= _) _ _ s;refine wpAny_bind (wpAny_seqItems got gdt ?_);simp only[Int.toNat_natCast,gx];refine wpAny_bind (wpAny_rule (wpAny_bind (wpAny_setField go gd (by simp) ?_)));show wpAny _ _ ((newExc (.type "StopIteration") []) >>= _) _ _ _;refine wpAny_bind ?_;simp only[newExc,newTuple];refine (wpAny_bind (wpAny_newObj_type ?_ (by size_fits)));refine (wpAny_bind (m:=firstArgMember _ _) (wpAny_of_eq (a:=Value.none) (by first | rfl | (simp only[firstArgMember];rfl)) ?_));refine (wpAny_newObj_type ?_ (by size_fits));simp only[raiseNew];refine wpAny_bind (wpAny_handled ?_)
 (first | rw[show A.in1.handled=none from hh] | rw[hh])
 refine (wpAny_bind (wpAny_pure (wpAny_throw ?_)));exact (hE _ _ (((Heap.SameBut.update ..).extBut.push _).push _) ⟨_,xJ _ rfl,rfl⟩)
end
theorem Rj{prog:Program}{w:World}{A:Around}(hh:A.handled=none)(q tt:Addr)(hne:tt≠q)(vs:Array Value) :
  Draws prog w A q [q,tt] vs.size (fun i v=>vs[i]? = some v) (fun i h=>h.IsTupleIter q tt i/\h.IsTuple tt vs) where
 live:=fun _ _ st=>let ⟨o,ho,_⟩:=st.1;⟨o,ho⟩
 frame:=fun _ _ _ st hk=>⟨st.1.at fun o e=>hk q (by simp) o e,st.2.at fun o e=>hk tt (by simp) o e⟩
 item:=fun i s Q E hi st hQ=>by
  refine Bf st.1 st.2 (x:=vs[i]) (by simp [hi]) fun h' hit' hs'=>?_;exact hQ _ h' s.toks (by simp [hi]) ⟨hit',st.2.extBut hs'.extBut hne⟩ hs'
 done:=fun s Q E st hE=>uA hh st.1 st.2 (by simp) hE
theorem Rh(l:Addr)(vs:Array Value)(n:Nat)(dct:Option Addr)(sl:Array (Option Value)) :
  Meets (Builtin.«enumerate.__new__» ⟨[.type "enumerate",.ref l],[]⟩) (fun _ R s=>s.heap.get? l=some { cls:=.type "tuple",dict:=dct,data:=.seq vs n,slots:=sl } ∧
   R (.ok (.ret (.ref (s.heap.push { cls:=.type "tuple_iterator",data:=.fields #[.ref l,.int 0 0] }).objs.size)))
    { s with heap:=(s.heap.push { cls:=.type "tuple_iterator",data:=.fields #[.ref l,.int 0 0] }).push { cls:=.type "enumerate",data:=.fields #[.none,.bool false,.ref s.heap.objs.size,rawInt 0,.none,.none] } }):=
 .of_wp fun prog w A R s h=>by
  obtain⟨hp,g,d,tk,os⟩:=s;obtain⟨hl,h⟩:=h;have hsub:=sub_enumerate;have hL:Heap.IsTuple (Shared.heap ⟨hp,g,d,tk,os⟩) l vs:=⟨_,hl,rfl,n,rfl⟩
  wp_walk using wpAny_loadPart' hl
  refine wpAny_stack_any fun st=>wpAny_pure ?_
  split
  ·rename_i c _ _ _ _ _
   cases (c==Value.type "enumerate")
   ·wp_walk using wpAny_loadPart' hl,wpAny_pyIter_tuple hL
    exact⟨_,rfl,h⟩
   ·wp_walk using wpAny_loadPart' hl,wpAny_pyIter_tuple hL
    exact⟨_,rfl,h⟩
  ·wp_walk using wpAny_loadPart' hl,wpAny_pyIter_tuple hL
   exact⟨_,rfl,h⟩
theorem Nh{prog:Program}{w:World}{A:Around}{E:Value->Shared->Prop}{s:Shared}{l:Addr}{vs:Array Value}{Q:Value->Shared->Prop}(hL:s.heap.IsTuple l vs)
  (h:∀ h',IsEnum h' (s.heap.objs.size+1) s.heap.objs.size 0 .none->h'.IsTupleIter s.heap.objs.size l 0->h'.objs.size=s.heap.objs.size+2 →
   (∀ b o,s.heap.get? b=some o->h'.get? b=some o)->Q (.ref (s.heap.objs.size+1)) { s with heap:=h' }) :
  wpAny (model prog w) A (call (.type "enumerate") [.ref l]) Q E s:=by
 obtain⟨⟨c,dct,dt,sl⟩,hl,hc,n,hd⟩:=hL
 replace hc:c = .type "tuple" := hc
 replace hd:dt = .seq vs n:=hd
 subst hc hd;refine callType_new F.called_enumerate (by decide) (F.typeCall_enumerate_1 _) (F.newCall_enumerate_1 _) (fun obj=>F.args_object_init_2 obj _) F.entry_enumerate_new (Rh l vs n dct sl) ⟨hl,?_⟩;have hz:(s.heap.push { cls:=.type "tuple_iterator",data:=.fields #[.ref l,.int 0 0] }).objs.size=s.heap.objs.size+1:=Heap.size_push ..;show _/\_;rw[hz]
 have he:IsEnum ((s.heap.push { cls:=.type "tuple_iterator",data:=.fields #[.ref l,.int 0 0] }).push
   { cls:=.type "enumerate",data:=.fields #[.none,.bool false,.ref s.heap.objs.size,rawInt 0,.none,.none] }) (s.heap.objs.size+1) s.heap.objs.size 0 .none:=by
  have:=xJ (s.heap.push { cls:=.type "tuple_iterator",data:=.fields #[.ref l,.int 0 0] })
   (o:={ cls:=.type "enumerate",data:=.fields #[.none,.bool false,.ref s.heap.objs.size,rawInt 0,.none,.none] }) rfl
  rw[hz]at this;exact this
 exact⟨⟨_,he,rfl⟩,h _ he ⟨_,j5 _ (xJ _ rfl),rfl,rfl⟩ (by rw[Heap.size_push,hz]) fun b o x=>j5 _ (j5 _ x)⟩
theorem Ri{prog:Program}{w:World}{A:Around}{E:Value->Shared->Prop}{s:Shared}{e q tt:Addr}{vs:Array Value}{i:Nat}{j:Int}{old:Value}{Q:Option Value->Shared->Prop}(hh:A.handled=none)(he:IsEnum s.heap e q j old)(g:s.heap.IsTupleIter q tt i)(gt:s.heap.IsTuple tt vs)(gx:vs[i]? = none)
  (hQ:∀ h',Heap.ExtBut q s.heap h'->Q none { s with heap:=h' }):wpAny (model prog w) A (pyNext (.ref e)) Q E s:=by
 have hT:s.TypeIs (.ref e) "enumerate" := ⟨_,he,rfl⟩;unfold pyNext;refine wpAny_bind (wpAny_attempt (wpAny_callSpecial?_slot (name:=Str.ofString "__next__") hT F.slot_enumerate_next (wpAny_call_entry F.slot_enumerate_next hT F.entry_enumerate_next ?_ (F.args_enumerate_next_1 _))));show wpAny _ _ (field (.ref e) 2 >>= _) _ _ _;refine wpAny_bind (wpAny_field he rfl (x:=.ref q) rfl ?_);refine wpAny_bind (uA (A:=A.in1) hh g gt gx fun h' x he' hx'=>?_);obtain⟨o,ho,hc⟩:=hx';refine (wpAny_bind (wpAny_isInstance (T := "StopIteration") (b:=true) ⟨o,ho,hc⟩ isSubtype_stop ?_));exact wpAny_pure (hQ _ he')
end PySem
namespace L2
open PySem PySem.Spec PyProof.Rows
section
variable{X:Cx}{pins:List (Addr×Obj)}{σ:St}{H:Hp}{s:Shared}{h':Heap}
theorem Inv.Jc{t':Nat}{ts:List Addr}(I:Inv X pins σ H s)(k:∀ b o,b∉ts->s.heap.get? b=some o->h'.get? b=some o)(hf:∀ b∈ts,gM X pins H b):Inv X pins σ H { s with heap:=h',toks:=t' }:=by
 have nit:∀ b u,H b=some u->b∉ts:=fun b u e z=>by
  rw[(hf b z).1]at e
  cases e
 refine I.step (g':=s.gens) (d':=s.drawn) (ch:=ts) (fun b hb=>?_) (fun b o _ _ hc e _=>k b o hc e) (fun b o _ _ hc e _=>⟨o.slots,k b o hc e⟩) (fun _ _ _ _ n=>n) (fun b o hc e=>⟨o,k b o hc e⟩) (fun _ _ e=>e) (fun _ _ _ e=>e) (fun b ps e=>⟨#[],by rw[e];simp⟩) (fun m hm=>?_) (fun b u e=>?_) I.bare
 ·obtain⟨f0,f1,f2,f3,f4,f5⟩:=hf b hb;exact⟨f3,f1,f4,f5⟩
 ·obtain⟨o,es,ep,ho,r⟩:=hm;exact⟨o,es,ep,k _ o (fun z=>(hf _ z).2.1 rfl) ho,r⟩
 ·refine (I.hok b u e).stay (fun c v hc q=>k c v ?_ q) (fun _ q=>q) fun _ _ q=>q;rcases hc with z | z
  ·rw[z];exact nit b u e
  ·exact nit c _ z
end
noncomputable def Ite(K:bO)(a:Addr):It:=
 ⟨fun i H => ∃ xs x,aK K H a xs/\xs[i]? = some x,fun i H v H'=>∃(t:Addr)(x:V),v = .ref t/\H t=none/\(∀ xs,aK K H a xs->xs[i]? = some x)/\H'=upd H t (.tup [.int (i:Int),x]),fun i H => ∃ xs,aK K H a xs/\xs.length<=i⟩
theorem Lk{P:Program}{w:World}{K:bO}{es:List Expr}{k:Nat}{pos:Pos}(a e q:Addr):Turn P w K (.Tuple es k pos) (Ite K a) [e,q] e (fun i h=>(∃ old,IsEnum h e q (i:Nat) old)/\h.IsTupleIter q a i) where
 mem:=by simp
 obj:=fun i h st b hb=>by
  obtain⟨⟨old,he⟩,o,ho,hc,hd⟩:=st;rcases bI.mp hb with rfl | hb
  ·refine⟨_,he,fun v z=>?_⟩;have z2:Data.fields _=Data.cell v:=z
   cases z2
  ·rw[cB.mp hb];exact⟨o,ho,fun v z=>by rw[hd]at z;cases z⟩
 keep:=fun i h h' st k=>by
  obtain⟨⟨old,he⟩,hq⟩:=st;exact⟨⟨old,k e (by simp) _ he⟩,hq.at fun o z=>k q (by simp) o z⟩
 item:=by
  intro X hP hw hK hc i pins s σ H E I hf st hg;subst hP hw hK;obtain⟨xs,x,hq,hx⟩:=hg;obtain⟨its,rv,p,hz⟩:=I.tuple hq;obtain⟨u,hu,ru⟩:=rv.get hx;obtain⟨⟨old,he⟩,hit⟩:=st;have pt:s.heap.IsTuple a its.toArray:=p
  have naq:a≠q:=fun z=>by
   obtain⟨o1,g1,c1,_⟩:=pt;obtain⟨o2,g2,c2,_⟩:=hit;rw[z,g2]at g1
   cases g1
   rw[c2]at c1;injection c1 with c1;exact absurd c1 (by decide)
  have neq:e≠q:=fun z=>by
   obtain⟨o2,g2,c2,_⟩:=hit;rw[<-z]at g2;have g3:=g2.symm.trans he
   cases g3
   have c3:Value.type "enumerate" = Value.type "tuple_iterator" := c2;injection c3 with c3;exact absurd c3 (by decide)
  have nea:e≠a:=fun z=>by
   obtain⟨o1,g1,c1,_⟩:=pt;rw[<-z]at g1;have g3:=g1.symm.trans he
   cases g3
   have c3:Value.type "enumerate" = Value.type "tuple" := c1;injection c3 with c3;exact absurd c3 (by decide)
  have D:=Rj (prog:=X.prog) (w:=X.w) (A:=X.A.in1) (I.ok.hd hc) q a naq its.toArray
  have hlt:i<its.toArray.size:=by
   have:=(lQ.mp hu).1
   simpa using this
  have hnew:H s.heap.objs.size=none:=I.hok.fresh (bM _);refine wpAny_pyNext_enum_itemD D he ⟨hit,pt⟩ hlt neq (by simp [neq,nea]) fun y h1 tk hy ho hs1 hT hsz hk=>?_
  obtain rfl:y=u:=by
   rw[List.getElem?_toArray,hu]at hy;exact (jO hy).symm
  refine⟨_,rfl,wpAny_letOwnedTupleGo_enum ho fun h2 he2 sb=>?_⟩;have nse:s.heap.objs.size≠e:=Nat.ne_of_gt (gP he)
  have nsq:s.heap.objs.size≠q:=by
   obtain⟨o2,g2,_⟩:=hit;exact Nat.ne_of_gt (gP g2)
  have kk:∀ b o,b∉[e,q]->s.heap.get? b=some o->h2.get? b=some o:=fun b o hb g=>by
   have b1:b≠e:=fun z=>hb (by simp [z]);have b2:b≠q:=fun z=>hb (by simp [z]);exact (sb.2 b b1).trans (hk b o b1 b2 g)
  have I1:Inv X pins σ H { s with heap:=h2,toks:=tk+1 }:=I.Jc kk hf
  have I2:Inv X pins σ (upd H s.heap.objs.size (.tup [.int (i:Int),x])) { s with heap:=h2,toks:=tk+1 }:=by
   refine Inv.adopt I1 (I.wO (bM _) hnew) ⟨by show 2<=sizeLine;decide,[.int i tk,y],.cons ⟨tk,rfl⟩ (.cons ru .nil),?_⟩;exact⟨_,(sb.2 _ nse).trans hT,rfl,_,rfl⟩
  refine⟨.ref s.heap.objs.size,_,I2,rfl,⟨_,x,rfl,hnew,fun ys hy=>by rw[I.xn hy hq];exact hx,rfl⟩,⟨⟨y,by have:=he2;simpa using this⟩,hs1.1.at fun o g=>(sb.2 q (Ne.symm neq)).trans g⟩,fun b hb=>?_⟩
  have nb:b≠s.heap.objs.size:=by
   rcases bI.mp hb with rfl | hb
   ·exact Ne.symm nse
   ·rw[cB.mp hb];exact Ne.symm nsq
  rw[zQ nb];exact (hf b hb).1
 done:=by
  intro X hP hw hK hc i pins s σ H E I hf st hg;subst hP hw hK;obtain⟨xs,hq,hx⟩:=hg;obtain⟨its,rv,p,hz⟩:=I.tuple hq;obtain⟨⟨old,he⟩,hit⟩:=st;have pt:s.heap.IsTuple a its.toArray:=p;have hl:=rv.length
  have hnone:its.toArray[i]? = none:=by simp;lia
  refine Ri (I.ok.hd hc) he hit pt hnone fun h2 eb=>⟨rfl,?_⟩;exact I.Jc (t':=s.toks) (fun b o hb g=>eb b o (fun z=>hb (by simp [z])) g) hf
 self:=fun _ _ _ _ _ st h=>by
  obtain⟨⟨old,he⟩,_⟩:=st;exact wpAny_pyIter_enum he h
section
variable{X:Cx}{es:List Expr}{k:Nat}{tpos:Pos}
noncomputable def qBR(K:bO)(ta:TA):TI:=fun σ H R=>ta σ H fun vs H1 => ∃ a,vs=[.ref a]/\(∃ xs,aK K H1 a xs)/\R (Ite K a) H1
theorem Ui{l:Expr}{ta:TA}{p pos:Pos}(hg:Gl X "enumerate")(hm:X.mg "enumerate" = none)(ha:PA X [l] ta)(hs:starEach [l] X.env=[(false,eval l X.env)]:=by rfl):PI X (.Tuple es k tpos) (.Call (.Name "enumerate" p) [l] [] pos) (qBR X.K ta):=by
 intro pins s σ H R I h;refine Call_ (mY I hg hm boot_enumerate (PyProof.Rows.callWith_type1 (au (ha pos pins s σ H _ I h) fun us s1 ⟨vs,H1,I1,r1,q1⟩=>?_) hs rfl));obtain⟨a,e,⟨xs,hq⟩,q⟩:=q1;subst e
 cases r1 with
 | cons r rr=>
  cases rr
  cases r
  obtain⟨its,rv,p,hz⟩:=I1.tuple hq;refine Nh (show s1.heap.IsTuple a its.toArray from p) fun h' he hit hsz hk=>?_;refine wpAny_pyIter_enum he ?_;have I2:Inv X pins σ H1 { s1 with heap:=h' }:=I1.kept (t':=s1.toks) hk;refine⟨s1.heap.objs.size+1,[s1.heap.objs.size+1,s1.heap.objs.size],_,_,H1,rfl,I2,Lk a _ _,⟨⟨.none,by simpa using he⟩,hit⟩,fun b hb=>?_,q⟩;rcases bI.mp hb with rfl | hb
  ·exact I1.wO (Nat.le_succ _) (I1.hok.fresh (Nat.le_succ _))
  ·rw[cB.mp hb];exact I1.wO (bM _) (I1.hok.fresh (bM _))
end
theorem RN{K:bO}{a:Addr}{xs:List V}{g:TG}{tb:TS}{D:Ends}{σ:St}{H:Hp}(Pv:Nat->St->Hp->Prop)(h0:Pv 0 σ H)(hl:∀ i σ H,i<=xs.length->Pv i σ H->aK K H a xs)
  (hs:∀ i x σ H t,xs[i]? = some x->Pv i σ H->H t=none->g (.ref t) σ (upd H t (.tup [.int (i:Int),x])) fun σ2 H2=>tb { D with nx:=Pv (i+1),ct:=Pv (i+1),bk:=D.nx } σ2 H2) (hd:∀ σ H,Pv xs.length σ H->D.nx σ H) :
  ∃ W:Nat->Nat->St->Hp->Prop,(∃ m,W 0 m σ H)/\∀ i m σ H,W i m σ H →
   ((Ite K a).stop i H/\D.nx σ H)∨((Ite K a).go i H/\∃ N:St->Hp->Prop,(∀ σ' H',N σ' H'->∃ m',m'<m/\W (i+1) m' σ' H')/\∀ x H',(Ite K a).Th i H x H'->g x σ H' fun σ2 H2=>tb { D with nx:=N,ct:=N,bk:=D.nx } σ2 H2):=by
 refine⟨fun i m σ H=>m+i=xs.length/\Pv i σ H,⟨xs.length,rfl,h0⟩,?_⟩;rintro i m σ H ⟨hm,p⟩;have hq:=hl i σ H (by lia) p
 by_cases hlt:i<xs.length
 ·refine .inr ⟨⟨xs,xs[i],hq,by simp [hlt]⟩,Pv (i+1),fun σ' H' p'=>⟨m-1,by lia,by lia,p'⟩,fun v H' y=>?_⟩;obtain⟨t,x,rfl,ht,hx,rfl⟩:=y;exact hs i x σ H t (hx xs hq) p ht
 ·obtain rfl:i=xs.length:=by lia
  exact .inl ⟨⟨xs,hq,bM _⟩,hd σ H p⟩
end L2
namespace L2
open PySem
noncomputable def Yz:Expr->Option V
 | .Constant (.int i) _ _=>some (.int i)
 | .Constant (.str z) _ _=>some (.str z)
 | .UnaryOp .USub (.Constant (.int i) _ _) _=>some (.int (-i))
 | _=>none
noncomputable def LQ:List Expr->Option (List V)
 | []=>some []
 | e::es=>match Yz e,LQ es with
  | some v,some vs=>some (v::vs)
  | _,_=>none
section
variable{X:Cx}
theorem Yy{e:Expr}{v:V}(h:Yz e=some v):PE X e (fun _ H Q=>Q v H)/\∀ es,starEach (e::es) X.env=(false,eval e X.env)::starEach es X.env:=by
 unfold Yz at h
 split at h
 ·cases h;exact⟨zB,fun _=>rfl⟩
 ·cases h;exact⟨zP,fun _=>rfl⟩
 ·cases h;refine⟨fun pins s σ H Q I h=>?_,fun _=>rfl⟩;exact (QD Gh zB) pins s σ H Q I ⟨_,rfl,h⟩
 ·cases h
theorem yj:∀ {es:List Expr} {vs:List V},LQ es=some vs->PA X es (fun _ H Q=>Q vs H)
 | [],vs,h=>by
  cases h
  exact zD
 | e::es,vs,h=>by
  unfold LQ at h
  split at h
  ·rename_i v vs' h1 h2
   cases h
   obtain⟨a,b⟩:=Yy (X:=X) h1;exact zA a (yj h2) (b es)
  ·cases h
end
structure RE(X:Cx)(e:Expr)(t:TE):Prop where
 p:PE X e t
structure RS(X:Cx)(st:Stmt)(t:TS):Prop where
 p:PS X st t
structure Zk(X:Cx)(st:List Stmt)(t:TS):Prop where
 p:Ac X st t
structure RA(X:Cx)(es:List Expr)(t:TA):Prop where
 p:PA X es t
section
variable{X:Cx}{e a b c:Expr}{es:List Expr}{te ta tb:TE}{tc:TT}{tr:TA}{pos:Pos}{st:Stmt}{ss rest:List Stmt}{t u:TS}
theorem qAV(h:RS X st t):Zk X [st] t:=⟨zG h.p⟩
theorem iW(h:RS X st t)(h2:Zk X rest u):Zk X (st::rest) (qA2 t u):=⟨zE h.p h2.p⟩
theorem qAW(h:RS X st t)(h2:Zk X rest u):Zk X (st::rest) (qAF t u):=⟨zZ h.p h2.p⟩
theorem Dn(h:PS X st t):RS X st t:=⟨h⟩
theorem Dq{i:Nat}{x:Str}{pos':Pos}(hN:X.N.Nodup)(hi:X.N[i]? = some x)(hx:Loc X.env.scope x)(he:RE X e te)(hs:swapsWith e (some (.Name x pos')) pos.line X.env=pure false:=by rfl)(hf:X.fn x=true∨X.env.scope.names.lookup x=some .local:=by first | exact .inl rfl | exact .inr rfl | assumption):RS X (.Assign [.Name x pos'] e pos) (Oj te (FZ i)):=⟨zK hN hi hx he.p hs hf⟩
theorem Ds(ha:RE X a ta)(hb:PE X b tb)(hs:Lg b):RE X (.Subscript a b pos) (tOp (qAZ X.K) ta tb):=⟨yB yU ha.p hb hs⟩
theorem Dr(h:RA X es tr):RE X (.List es pos) (qAA tr):=⟨yK h.p⟩
theorem vf{vs:List V}(h:LQ es=some vs):RA X es (fun _ H Q=>Q vs H):=⟨yj h⟩
end
end L2
namespace L2
open PySem PySem.Spec PyProof.Rows
section
variable{X:Cx}
theorem range_any(n:Nat)(f:Nat->Bool)(bs:List Bool)(hl:bs.length=n)(hf:∀ i b,bs[i]? = some b->f i=b):(List.range n).any f=bs.any id:=by
 rw[Bool.eq_iff_iff,List.any_eq_true,List.any_eq_true];constructor
 ·rintro⟨i,hi,h⟩
  have hi':i<bs.length:=by rw[hl];exact List.mem_range.mp hi
  rw[hf i _ (gq hi')]at h;exact⟨_,je hi',h⟩
 ·rintro⟨b,hb,h⟩;obtain⟨i,e⟩:=List.mem_iff_getElem?.mp hb;have hi:=(lQ.mp e).1;exact⟨i,List.mem_range.mpr (by lia),by rw[hf i b e];exact h⟩
theorem tO(hc:X.calm=true):jz X (.builtin "any") (fun xs H Q => ∃(p:Addr)(bs:List Bool),xs=[.ref p]/\aQ X.K H p (bs.map V.bl)/\Q (.bl (bs.any id)) H):=by
 intro pins s σ H xs us Q I r h;obtain⟨p,bs,rfl,hq,q⟩:=h;obtain⟨u,rfl,rx⟩:=vals1 r
 cases rx
 obtain⟨its,rv,pl,hz⟩:=I.list hq;have hlen:=rv.length;rw[bZ]at hlen
 have hlt:p<s.heap.objs.size:=by
  obtain⟨o,ho,_⟩:=pl.isList;exact gP ho
 refine call_any_walk (wpAny_pyIter_list pl.isList ?_)
 refine⟨s.heap.objs.size,[s.heap.objs.size,p],[s.heap.objs.size],its.toArray.size,fun i v=>its.toArray[i]? = some v,fun i h=>h.IsListIter s.heap.objs.size p i/\h.IsList p its.toArray,fun i=>(bs[i]?).getD true,rfl,
  Walks.list (A:=X.A.in1) (I.ok.hd hc) _ _ (kI hlt) _,⟨⟨_,xJ _ rfl,rfl,rfl⟩,pl.isList.at fun o e=>j5 _ e⟩,?_,?_⟩
 ·intro i v s' Q' E' hv hQ'
  have hi:i<bs.length:=by
   have:=(Array.getElem?_eq_some_iff.mp hv).1;simp only[List.size_toArray]at this;lia
  have e:bs[i]? = some bs[i]:=gq hi;obtain⟨u,hu,ru⟩:=rv.get (i:=i) (x:=V.bl bs[i]) (by rw[gf,e];rfl)
  have hv':its[i]? = some v:=by simpa using hv
  rw[hu]at hv'
  cases hv'
  cases ru
  have hQ2:Q' ((bs[i]?).getD true) s':=hQ';rw[e]at hQ2;exact wpAny_truthy_bool hQ2
 ·intro h' tk k;refine⟨.bl (bs.any id),H,I.kept (t':=tk) (h':=h') fun b u e=>k b u (fun z=>?_) (j5 _ e),?_,q⟩
  ·have z':b=s.heap.objs.size:=by simpa using z
   exact absurd (gP e) (by rw[z'];exact Nat.lt_irrefl _)
  ·show Value.bool _=Value.bool _;rw[range_any its.toArray.size _ bs (by simp only[List.size_toArray];exact hlen) fun i b e=>by rw[e];rfl]
end
noncomputable def Zn(top:Int)(n:Nat):It:=⟨fun i _=>i<n,fun i H x H'=>H'=H/\x = .int (top-i),fun i _=>n<=i⟩
theorem Ln{P:Program}{w:World}{K:bO}{tg:Expr}(it:Addr)(top:Int)(n:Nat):Turn P w K tg (Zn top n) [it] it (fun i h=>IsRangeIter h it (top+(i:Nat)*(-1)) ((n:Int)-(i:Nat)) (-1)) where
 mem:=by simp
 obj:=fun i h st b hb=>by
  obtain rfl:b=it:=by simpa using hb
  refine⟨_,st,fun v z=>?_⟩;have z2:Data.fields _=Data.cell v:=z
  cases z2
 keep:=fun i h h' st k=>k it (by simp) _ st
 item:=by
  intro X hP hw hK hc i pins s σ H E I hf st hg;subst hP hw hK;obtain⟨f0,f1,_,f3,f4,f5⟩:=hf it (by simp);refine (Walks.range (prog:=X.prog) (w:=X.w) (I.ok.hd hc) it top (-1) n).item i s _ _ hg st fun v h' tk hv st' kk=>?_;obtain⟨t,rfl⟩:=hv;have I1:Inv X pins σ H { s with heap:=h',toks:=tk }:=I.turned (fun b o hb e=>kk b o (by simpa using hb) e) f0 f1 f3 f4 f5
  have ev:top+(i:Int)*(-1)=top-i:=by lia
  refine⟨_,rfl,Ko (s:={ s with heap:=h',toks:=tk }) (n := "range_iterator") st' rfl rfl (by decide) ⟨.int (top-i),H,I1,⟨t,by rw[<-ev]⟩,⟨rfl,rfl⟩,st',fun b hb=>(hf b hb).1⟩⟩
 done:=by
  intro X hP hw hK hc i pins s σ H E I hf st hg;subst hP hw hK;obtain⟨f0,f1,_,f3,f4,f5⟩:=hf it (by simp);have hn:n<=i:=hg;exact wpAny_pyNext_range_end (I.ok.hd hc) st (by lia) fun h' eb=>⟨rfl,I.turned (t':=s.toks) (fun b o hb e=>eb b o hb e) f0 f1 f3 f4 f5⟩
 self:=fun _ _ _ _ _ st h=>wpAny_pyIter_rangeiter st h
section
variable{X:Cx}{tg:Expr}
theorem Vl{pins:List (Addr×Obj)}{σ:St}{H:Hp}{s:Shared}{R:It->Hp->Prop}{E:Value->Shared->Prop}{x y:Int}{t u v:Tok}{tk:Nat}(I:Inv X pins σ H s)(h1 : -(2 ^ 62)<=x)(h2:x<2 ^ 62)(h3 : -(2 ^ 62)<=y)(h4:y<2 ^ 62)
  (q:R (Zn x (x-y).toNat) H):wpAny (model X.prog X.w) X.A (pyIter (.ref s.heap.objs.size)) (PIE X pins σ tg R) E { s with heap:=s.heap.push { cls:=.type "range",data:=.fields #[.int x t,.int y u,.int (-1) v] },toks:=tk }:=by
 refine wpAny_pyIter_range (IsRange.new ..) (PySem.W.small_down h1 h2 h3 h4) ?_;have I1:Inv X pins σ H { s with heap:=s.heap.push { cls:=.type "range",data:=.fields #[.int x t,.int y u,.int (-1) v] },toks:=tk }:=I.kept fun b o e=>j5 _ e
 refine⟨(s.heap.push { cls:=.type "range",data:=.fields #[.int x t,.int y u,.int (-1) v] }).objs.size,[(s.heap.push { cls:=.type "range",data:=.fields #[.int x t,.int y u,.int (-1) v] }).objs.size],_,_,H,rfl,
  I1.kept (t':=tk) fun b o e=>j5 _ e,Ln _ x (x-y).toNat,?_,fun b hb=>?_,q⟩
 ·have e1:x+((0:Nat):Int)*(-1)=x:=by simp
  have e2:(((x-y).toNat:Nat):Int)-((0:Nat):Int)=Builtin.Range.rangeSize x y (-1):=by rw[PySem.W.rangeSize_downNat];simp
  show IsRangeIter _ _ (x+((0:Nat):Int)*(-1)) ((((x-y).toNat:Nat):Int)-((0:Nat):Int)) (-1);rw[e1,e2];exact xJ _ rfl
 ·obtain rfl:b=(s.heap.push { cls:=.type "range",data:=.fields #[.int x t,.int y u,.int (-1) v] }).objs.size:=by simpa using hb
  exact I1.wO (bM _) (I1.hok.fresh (bM _))
noncomputable def qBS(ta:TA):TI:=fun σ H R=>ta σ H fun vs H1 => ∃ i:Int,vs=[.int i,.int (-1),.int (-1)] /\ -1<=i/\i<2 ^ 62/\R (Zn i (i-(-1)).toNat) H1
theorem Uj{a b c:Expr}{ta:TA}{p pos:Pos}(hg:Gl X "range")(hm:X.mg "range" = none)(ha:PA X [a,b,c] ta)(hs:starEach [a,b,c] X.env=[(false,eval a X.env),(false,eval b X.env),(false,eval c X.env)]:=by rfl)(hs2:starEach [b,c] X.env=[(false,eval b X.env),(false,eval c X.env)]:=by rfl) :
  PI X tg (.Call (.Name "range" p) [a,b,c] [] pos) (qBS ta):=by
 intro pins s σ H R I h;refine Call_ (mY I hg hm boot_range (PyProof.Rows.callWith_type1 (au (ha pos pins s σ H _ I h) fun us s1 ⟨vs,H1,I1,r1,q1⟩=>?_) (by rw[hs,hs2]) (by rw[hs2];rfl)));obtain⟨i,e,q1,q2,q⟩:=q1;subst e
 cases r1 with
 | cons r rr=>
  cases rr with
  | cons r' rr=>
   cases rr with
   | cons r2 rr=>
    cases rr
    obtain⟨t,rfl⟩:=r;obtain⟨t',rfl⟩:=r';obtain⟨t2,rfl⟩:=r2;exact call_range_3 (by decide) (Vl I1 (by lia) q2 (by decide) (by decide) q) (.inl (PyProof.noPylong_small (by decide)))
end
theorem RP{top:Int}{n:Nat}{g:TG}{tb:TS}{D:Ends}{σ:St}{H:Hp}(Pv:Nat->St->Hp->Prop)(h0:Pv 0 σ H)
  (hs:∀ i σ H,i<n->Pv i σ H->g (.int (top-i)) σ H fun σ2 H2=>tb { D with nx:=Pv (i+1),ct:=Pv (i+1),bk:=D.nx } σ2 H2) (hd:∀ σ H,Pv n σ H->D.nx σ H) :
  ∃ W:Nat->Nat->St->Hp->Prop,(∃ m,W 0 m σ H)/\∀ i m σ H,W i m σ H →
   ((Zn top n).stop i H/\D.nx σ H)∨((Zn top n).go i H/\∃ N:St->Hp->Prop,(∀ σ' H',N σ' H'->∃ m',m'<m/\W (i+1) m' σ' H')/\∀ x H',(Zn top n).Th i H x H'->g x σ H' fun σ2 H2=>tb { D with nx:=N,ct:=N,bk:=D.nx } σ2 H2):=by
 refine⟨fun i m σ H=>m+i=n/\Pv i σ H,⟨n,rfl,h0⟩,?_⟩;rintro i m σ H ⟨hm,p⟩
 by_cases hlt:i<n
 ·refine .inr ⟨hlt,Pv (i+1),fun σ' H' p'=>⟨m-1,by lia,by lia,p'⟩,fun x H' y=>?_⟩;obtain⟨rfl,rfl⟩:=y;exact hs i σ _ hlt p
 ·obtain rfl:i=n:=by lia
  exact .inl ⟨bM _,hd σ H p⟩
section
variable{X:Cx}
end
end L2
namespace PySem
open Sem (wp)
namespace Rv
section
variable{prog:Program}{w:World}{A:Around}{E:Value->Shared->Prop}{s:Shared}{I:Addr}{fp wr:List Addr}{G:Array GenState->Array GenState->Prop}{n:Nat}{P:Nat->Value->Prop}{St:Nat->Shared->Prop}
end
end Rv
end PySem
namespace L2
open PySem PySem.Spec PyProof.Rows
section
variable{X:Cx}
theorem w6:jZ X (binaryOp .Add) (fun x y H Q => ∃(a b:Addr)(ys:List V),x = .ref a/\y = .ref b/\aK X.K H a []/\aK X.K H b ys/\Q (.ref b) H):=by
 intro pins s σ H x y v u Q I rx ry h;obtain⟨a,b,ys,rfl,rfl,ha,hb,q⟩:=h
 cases rx
 cases ry
 obtain⟨its,r1,p1,_⟩:=I.tuple ha;obtain⟨its2,r2,p2,_⟩:=I.tuple hb;have e0:its=[]:=r1.qg.mpr rfl;subst e0;obtain⟨⟨cls,dd,data,sl⟩,ho,hc,n,hd⟩:=id p1;obtain⟨⟨cls2,dd2,data2,sl2⟩,ho2,hc2,n2,hd2⟩:=id p2;simp only at hc hd hc2 hd2;subst hc hd hc2 hd2;exact concat_meets ⟨_,ho,rfl⟩ ⟨_,ho2,rfl⟩ noFill_tuple_add seq_tuple_add PySem.F.slot_tuple_add PySem.F.entry_tuple_add (PySem.F.args_tuple_add_2 _ _) (tuple_addW0 a b _ _ n n2 dd dd2 sl sl2 (by simp)) ⟨ho,ho2,⟨.ref b,H,I,rfl,q⟩⟩
end
end L2
namespace L2
open PySem
section
variable{X:Cx}
end
end L2
namespace Tr
noncomputable def oZ(ds:List Int)(d:Int):Nat->Option Nat
 | 0=>none
 | j+1=>if ds.getD j 0<d then some j else oZ ds d j
noncomputable def par(ds:List Int)(k:Nat):Option Nat:=oZ ds (ds.getD k 0) k
theorem pI{ds:List Int}{d:Int}:∀ {k j:Nat},j<k->ds.getD j 0<d->(∀ i,j<i->i<k->d<=ds.getD i 0)->oZ ds d k=some j
 | 0,j,h,_,_=>by lia
 | k+1,j,h,hd,ha=>by
  unfold oZ
  by_cases e:j=k
  ·subst e;rw[if_pos hd]
  ·have:=ha k (by lia) (by lia);rw[if_neg (by lia)];exact pI (by lia) hd fun i h1 h2=>ha i h1 (by lia)
theorem vp{ds:List Int}{d:Int}:∀ {k:Nat},(∀ i,i<k->d<=ds.getD i 0)->oZ ds d k=none
 | 0,_=>rfl
 | k+1,h=>by
  unfold oZ;have:=h k (by lia);rw[if_neg (by lia)];exact vp fun i hi=>h i (by lia)
theorem vq{ds:List Int}{d:Int}:∀ {k j:Nat},oZ ds d k=some j->j<k/\ds.getD j 0<d/\∀ i,j<i->i<k->d<=ds.getD i 0
 | 0,j,h=>by cases h
 | k+1,j,h=>by
  unfold oZ at h
  split at h
  ·cases h;exact⟨by lia,by assumption,fun i h1 h2=>by lia⟩
  ·rename_i hn
   obtain⟨a,b,c⟩:=vq h;refine⟨by lia,b,fun i h1 h2=>?_⟩
   by_cases e:i=k
   ·subst e;lia
   ·exact c i h1 (by lia)
theorem mU{ds:List Int}{k j:Nat}(h:par ds k=some j):j<k:=(vq h).1
structure Good(ds:List Int):Prop where
 pos:0<ds.length
 first:ds.getD 0 0=0
 next:∀ k,k+1<ds.length->1<=ds.getD (k+1) 0/\ds.getD (k+1) 0<=ds.getD k 0+1
theorem Good.nonneg{ds:List Int}(g:Good ds):∀ k,k<ds.length->0<=ds.getD k 0
 | 0,_=>by rw[g.first];exact Int.le_refl _
 | k+1,h=>by have:=g.next k h;lia
theorem Good.snoc{ds:List Int}{v:Int}(g:Good ds)(h1:1<=v)(h2:v<=ds.getD (ds.length-1) 0+1):Good (ds++[v]):=by
 have hp:=g.pos
 have old:∀ k,k<ds.length->(ds++[v]).getD k 0=ds.getD k 0:=fun k hk=>by
  rw[lX,lX,Ck hk]
 have new:(ds++[v]).getD ds.length 0=v:=by
  rw[lX,Sy (bM _)];simp
 refine⟨by simp,by rw[old 0 hp];exact g.first,fun k hk=>?_⟩;rw[dW,gj]at hk
 by_cases e:k+1<ds.length
 ·rw[old _ e,old k (by lia)];exact g.next k e
 ·have e':k+1=ds.length:=by lia
  rw[old k (by lia),e',new,show k=ds.length-1 by lia];exact⟨h1,h2⟩
theorem Good.one:Good [0]:=⟨by decide,rfl,fun k h=>by simp at h⟩
structure Above(ds:List Int)(k:Nat)(s:List Nat):Prop where
 len:(s.length:Int)=ds.getD k 0+1
 top:s[(ds.getD k 0).toNat]? = some k
 le:∀(i v:Nat),s[i]? = some v->v<=k/\ds.getD v 0=(i:Int)/\∀ j,v<j->j<=k->(i:Int)<ds.getD j 0
noncomputable def fZ(ds:List Int)(r n:Nat):List Nat:=(List.range n).filter fun j=>par ds j==some r
noncomputable def kids(ds:List Int)(r:Nat):List Nat:=fZ ds r ds.length
theorem jF(ds:List Int)(r n:Nat):fZ ds r (n+1)=fZ ds r n++if par ds n==some r then [n] else []:=by
 unfold fZ;rw[List.range_succ,List.filter_append];congr 1;rw[List.filter_cons];simp
theorem Ie(ds:List Int)(r n:Nat):(fZ ds r n).length<=n:=by
 unfold fZ;refine Nat.le_trans (rT _ _) ?_;simp
noncomputable def Oc(ds:List Int):Nat->Nat->List Nat
 | 0,_=>[]
 | f+1,k=>match par ds k with
  | none=>[]
  | some j=>j::Oc ds f j
noncomputable def ups(ds:List Int)(k:Nat):List Nat:=Oc ds k k
theorem v7(ds:List Int):∀(f k:Nat),k<=f->Oc ds f k=Oc ds k k
 | f,0,_=>by
  cases f with
  | zero=>rfl
  | succ f=>rfl
 | 0,k+1,h=>by lia
 | f+1,k+1,h=>by
  show (match par ds (k+1) with | none=>[] | some j=>j::Oc ds f j)=(match par ds (k+1) with | none=>[] | some j=>j::Oc ds k j)
  cases e:par ds (k+1) with
  | none=>rfl
  | some j=>
   have hj:=mU e;show j::Oc ds f j=j::Oc ds k j;rw[v7 ds f j (by lia),v7 ds k j (by lia)]
theorem v5{ds:List Int}{k:Nat}(h:par ds k=none):ups ds k=[]:=by
 unfold ups
 cases k with
 | zero=>rfl
 | succ k=>
  show (match par ds (k+1) with | none=>[] | some j=>j::Oc ds k j)=[];rw[h]
theorem q9{ds:List Int}{k j:Nat}(h:par ds k=some j):ups ds k=j::ups ds j:=by
 have hj:=mU h;unfold ups
 cases k with
 | zero=>lia
 | succ k=>
  show (match par ds (k+1) with | none=>[] | some j=>j::Oc ds k j)=_;rw[h];show j::Oc ds k j=_;rw[v7 ds k j (by lia)]
theorem Ob{ds:List Int}:∀ {k v:Nat},v∈ups ds k->v<k:=by
 intro k
 induction k using Nat.strongRecOn with
 | ind k ih=>
  intro v hv
  cases e:par ds k with
  | none=>
   rw[v5 e]at hv
   cases hv
  | some j=>
   have hj:=mU e;rw[q9 e]at hv;rcases bI.mp hv with rfl | h
   ·exact hj
   ·have:=ih j hj h;lia
noncomputable def hall(ds:List Int)(isOne:Nat->Bool)(a b:Nat):Option Nat:=(ups ds a).find? fun x=>(ups ds b).contains x&&isOne x
noncomputable def bA(ds:List Int)(a b:Nat):Bool:=(ups ds a).contains b
theorem Et{ds:List Int}{a b j:Nat}(h:par ds a=some j):bA ds a b=(j==b||bA ds j b):=by
 unfold bA;rw[q9 h,List.contains_cons];congr 1;exact Bool.eq_iff_iff.mpr ⟨fun z=>by simpa using (eq_of_beq z).symm,fun z=>by simpa using (eq_of_beq z).symm⟩
structure Af(ds:List Int)(k e:Nat):Prop where
 lt:k<e
 le:e<=ds.length
 ins:∀ j,k<j->j<e->ds.getD k 0<ds.getD j 0
 out:e<ds.length->ds.getD e 0<=ds.getD k 0
theorem Dz{ds:List Int}{d:Int}:∀ {k:Nat},oZ ds d k=none->∀ i,i<k->d<=ds.getD i 0
 | 0,_,i,h=>by lia
 | k+1,e,i,h=>by
  unfold oZ at e
  split at e
  ·cases e
  ·rename_i hn
   by_cases q:i=k
   ·subst q;lia
   ·exact Dz e i (by lia)
theorem KD{ds:List Int}{k j:Nat}:par ds j=some k↔k<j/\ds.getD k 0<ds.getD j 0/\∀ i,k<i->i<j->ds.getD j 0<=ds.getD i 0:=
 ⟨fun h=>vq h,fun ⟨a,b,c⟩=>pI a b c⟩
theorem VN{ds:List Int}:∀(a b:Nat),b∈ups ds a↔b<a/\∀ j,b<j->j<=a->ds.getD b 0<ds.getD j 0:=by
 intro a
 induction a using Nat.strongRecOn with
 | ind a ih=>
  intro b
  cases e:par ds a with
  | none=>
   rw[v5 e];refine⟨fun z=>(by cases z),fun ⟨h1,h2⟩=>?_⟩;have:=Dz e b h1;have:=h2 a h1 (bM _);lia
  | some p=>
   obtain⟨hp,hd,ha⟩:=KD.mp e;rw[q9 e,bI,ih p hp b];constructor
   ·rintro (rfl | ⟨h1,h2⟩)
    ·refine⟨hp,fun j j1 j2=>?_⟩
     by_cases q:j=a
     ·rw[q];exact hd
     ·have:=ha j j1 (by lia);lia
    ·refine⟨by lia,fun j j1 j2=>?_⟩
     by_cases q:j<=p
     ·exact h2 j j1 q
     ·have z:=h2 p h1 (bM _)
      by_cases q2:j=a
      ·rw[q2];lia
      ·have:=ha j (by lia) (by lia);lia
   ·rintro⟨h1,h2⟩
    by_cases q:b=p
    ·exact .inl q
    ·right
     have z:=h2 a h1 (bM _)
     by_cases q2:p<b
     ·have:=ha b q2 h1;lia
     ·exact⟨by lia,fun j j1 j2=>h2 j j1 (by lia)⟩
theorem wF{ds:List Int}{a b e:Nat}(h:Af ds b e)(ha:a<ds.length):bA ds a b=(decide (b<a)&&decide (a<e)):=by
 unfold bA;rw[Bool.eq_iff_iff,List.contains_iff_mem,VN,Bool.and_eq_true,decide_eq_true_iff,decide_eq_true_iff];constructor
 ·rintro⟨h1,h2⟩;refine⟨h1,?_⟩
  by_cases q:a<e
  ·exact q
  ·have:=h2 e h.lt (by lia);have:=h.out (by lia);lia
 ·rintro⟨h1,h2⟩;exact⟨h1,fun j j1 j2=>h.ins j j1 (by lia)⟩
theorem KH{ds:List Int}(g:Good ds){j k e:Nat}(h:Af ds k e)(hj:j<ds.length):(par ds j=some k)↔(k<j/\j<e/\ds.getD j 0=ds.getD k 0+1):=by
 rw[KD];constructor
 ·rintro⟨h1,h2,h3⟩;refine⟨h1,?_,?_⟩
  ·by_cases q:j<e
   ·exact q
   ·have:=h.out (by have:=h.lt;lia)
    by_cases q2:j=e
    ·subst q2;lia
    ·have:=h3 e h.lt (by lia);lia
  ·have n:=g.next k (by lia)
   by_cases q:j=k+1
   ·subst q;lia
   ·have:=h3 (k+1) (by lia) (by lia);lia
 ·rintro⟨h1,h2,h3⟩;refine⟨h1,by lia,fun i i1 i2=>?_⟩;have:=h.ins i i1 (by lia);lia
theorem wH(ds:List Int)(k:Nat):∀ n,n<=k+1->fZ ds k n=[]
 | 0,_=>rfl
 | n+1,h=>by
  rw[jF,wH ds k n (by lia),if_neg]
  ·rfl
  ·intro z;have:=mU (eq_of_beq z);lia
theorem uD{ds:List Int}(g:Good ds){k e:Nat}(h:Af ds k e):∀ n,e+n<=ds.length->fZ ds k (e+n)=fZ ds k e
 | 0,_=>rfl
 | n+1,hn=>by
  rw[show e+(n+1)=(e+n)+1 by lia,jF,uD g h n (by lia),if_neg,gQ];intro z;have:=(KH g h (by lia)).mp (eq_of_beq z);lia
theorem Qy{ds:List Int}(g:Good ds){k e:Nat}(h:Af ds k e):kids ds k=fZ ds k e:=by
 have q:=uD g h (ds.length-e) (by have:=h.le;lia);rw[show e+(ds.length-e)=ds.length by have:=h.le;lia]at q;exact q
noncomputable def bears(ds:List Int)(gs:List Nat)(k:Nat):Bool:=gs.any fun g=>g==k||bA ds g k
noncomputable def next(ds:List Int)(al:Nat->Bool)(gs:List Nat)(p:Nat):List Nat:=
 if al p=true then kids ds p else match (kids ds p).find? (bears ds gs) with
  | some k=>[k]
  | none=>(kids ds p).take 1
inductive nF(ds:List Int)(al:Nat->Bool)(gs:List Nat)(un:Option Nat):Nat->Prop where
 | top:un=none->nF ds al gs un 0
 | root {p k:Nat}:k∈next ds al gs p->un=some p->nF ds al gs un k
 | low {p k:Nat}:k∈next ds al gs p->nF ds al gs un p->nF ds al gs un k
theorem nF.kid{ds:List Int}{al:Nat->Bool}{gs:List Nat}{un:Option Nat}{p k:Nat}(h:k∈next ds al gs p)(h':un=some p∨nF ds al gs un p):nF ds al gs un k:=by
 rcases h' with e | g
 ·exact .root h e
 ·exact .low h g
theorem wD{ds:List Int}{r k:Nat}:k∈kids ds r↔k<ds.length/\par ds k=some r:=by
 unfold kids fZ;rw[lW,List.mem_range];exact⟨fun ⟨a,b⟩=>⟨a,eq_of_beq b⟩,fun ⟨a,b⟩=>⟨a,by rw[b];exact beq_self_eq_true _⟩⟩
theorem yx(ds:List Int)(p:Nat):(kids ds p).Pairwise (· < ·):=by
 unfold kids fZ;exact List.pairwise_lt_range.filter _
theorem Ek{ds:List Int}{al:Nat->Bool}{gs:List Nat}{p k:Nat}(h:k∈next ds al gs p):k∈kids ds p:=by
 unfold next at h
 split at h
 ·exact h
 ·split at h
  ·rename_i k' e
   rw[cB.mp h];exact List.mem_of_find?_eq_some e
  ·exact List.mem_of_mem_take h
theorem iY{ds:List Int}{al:Nat->Bool}{gs:List Nat}{p k:Nat}(h:k∈next ds al gs p):par ds k=some p:=(wD.mp (Ek h)).2
theorem KN{ds:List Int}{al:Nat->Bool}{gs:List Nat}{p k:Nat}(h:k∈next ds al gs p):k<ds.length:=(wD.mp (Ek h)).1
theorem yq(ds:List Int)(al:Nat->Bool)(gs:List Nat)(p:Nat):(next ds al gs p).Pairwise (· < ·):=by
 unfold next
 split
 ·exact yx ds p
 ·split
  ·exact List.pairwise_singleton _ _
  ·exact (yx ds p).sublist (List.take_sublist _ _)
theorem nF.lt{ds:List Int}{al:Nat->Bool}{gs:List Nat}{un:Option Nat}{k:Nat}(pos:0<ds.length)(h:nF ds al gs un k):k<ds.length:=by
 cases h with
 | top=>exact pos
 | root h _=>exact KN h
 | low h _=>exact KN h
theorem nF.over{ds:List Int}{al:Nat->Bool}{gs:List Nat}{un:Option Nat}{k:Nat}(h:nF ds al gs un k):∀ u,un=some u->u<k:=by
 induction h with
 | top e=>intro u e';rw[e]at e';cases e'
 | root h hp=>
  intro u e;rw[e]at hp
  cases hp
  exact mU (iY h)
 | low h _ ih=>
  intro u e;have:=mU (iY h);have:=ih u e;lia
structure nA(ds:List Int)(al:Nat->Bool)(gs:List Nat)(un:Option Nat)(gone ahead:List Nat):Prop where
 nd:(gone++ahead).Nodup
 ok:∀ x∈gone++ahead,nF ds al gs un x
 fr:∀ x∈gone++ahead,par ds x=un ∨ ∃ g∈gone,par ds x=some g
 st:un=none->0∈gone++ahead
 su:∀ u,un=some u->∀ x∈next ds al gs u,x∈gone++ahead
 cl:∀ g∈gone,∀ x∈next ds al gs g,x∈gone++ahead
theorem fX{l:List Nat}(h:l.Pairwise (· < ·)):l.Nodup:=h.imp fun z=>kI z
theorem nA.none(ds:List Int)(al:Nat->Bool)(gs:List Nat):nA ds al gs none [] [0]:=
 ⟨by simp,fun x hx=>by rw[List.mem_singleton.mp hx];exact .top rfl,fun x hx=>by rw[List.mem_singleton.mp hx];exact .inl rfl,fun _=>List.mem_singleton.mpr rfl,fun u e=>(by cases e),fun g hg=>(by cases hg)⟩
theorem nA.some(ds:List Int)(al:Nat->Bool)(gs:List Nat)(u:Nat):nA ds al gs (some u) [] (next ds al gs u):=
 ⟨fX (yq ds al gs u),fun x hx=>.kid hx (.inl rfl),fun x hx=>.inl (iY hx),fun e=>(by cases e),fun v e x hx=>by cases e;exact hx,fun g hg=>(by cases hg)⟩
theorem nA.step{ds:List Int}{al:Nat->Bool}{gs:List Nat}{un:Option Nat}{gone a:List Nat}{r:Nat}(w:nA ds al gs un gone (a++[r])):nA ds al gs un (gone++[r]) (a++next ds al gs r):=by
 have gr:nF ds al gs un r:=w.ok r (by simp)
 have sub:∀ x,x∈gone++(a++[r])->x∈(gone++[r])++(a++next ds al gs r):=fun x hx=>by
  simp only[List.mem_append,List.mem_singleton]at hx ⊢;rcases hx with h | h | h
  ·exact .inl (.inl h)
  ·exact .inr (.inl h)
  ·exact .inl (.inr h)
 have nr:r∉gone:=fun z=>by
  have:=(List.nodup_append.mp w.nd).2.2 r z r (by simp);exact this rfl
 have new:∀ x∈next ds al gs r,x∉gone++(a++[r]):=fun x hx z=>by
  have e:=iY hx;rcases w.fr x z with h | ⟨g,hg,h⟩
  ·rw[e]at h;exact absurd (gr.over r h.symm) (Nat.lt_irrefl _)
  ·rw[e]at h
   cases h
   exact nr hg
 have p1:((gone++[r])++(a++next ds al gs r)).Perm ((gone++(a++[r]))++next ds al gs r):=by
  rw[List.append_assoc,List.append_assoc];refine List.Perm.append_left gone ?_;rw[<-List.append_assoc];refine List.Perm.append_right _ ?_;exact List.perm_append_comm
 refine⟨?_,fun x hx=>?_,fun x hx=>?_,fun e=>sub _ (w.st e),fun u e x hx=>sub _ (w.su u e x hx),fun g hg x hx=>?_⟩
 ·refine p1.nodup_iff.mpr (List.nodup_append.mpr ⟨w.nd,fX (yq ds al gs r),fun x hx y hy e=>?_⟩);subst e;exact new x hy hx
 ·rcases cX.mp (p1.mem_iff.mp hx) with h | h
  ·exact w.ok x h
  ·exact .kid h (.inr gr)
 ·rcases cX.mp (p1.mem_iff.mp hx) with h | h
  ·rcases w.fr x h with h | ⟨g,hg,h⟩
   ·exact .inl h
   ·exact .inr ⟨g,List.mem_append_left _ hg,h⟩
  ·exact .inr ⟨r,by simp,iY h⟩
 ·rcases cX.mp hg with h | h
  ·exact sub _ (w.cl g h x hx)
  ·rw[cB.mp h]at hx;simp [hx]
theorem nA.done{ds:List Int}{al:Nat->Bool}{gs:List Nat}{un:Option Nat}{gone:List Nat}(w:nA ds al gs un gone [])(k:Nat):k∈gone↔nF ds al gs un k:=by
 constructor
 ·intro h;exact w.ok k (by simpa using h)
 ·intro h
  induction h with
  | top e=>simpa using w.st e
  | root hk hp=>simpa using w.su _ hp _ hk
  | low hk _ ih=>simpa using w.cl _ ih _ hk
theorem jq:∀(n:Nat)(l:List Nat),l.Nodup->(∀ k∈l,k<n)->l.length<=n
 | 0,l,_,h=>by
  cases l with
  | nil=>exact bM _
  | cons x l=>exact absurd (h x Cu) (Nat.not_lt_zero _)
 | n+1,l,hd,h=>by
  have e:=jq n (l.filter (· ≠ n)) (hd.filter _) fun k hk=>by
   obtain⟨a,b⟩:=lW.mp hk;have:=h k a
   have:k≠n:=by simpa using b
   lia
  have:l.length<=(l.filter (· ≠ n)).length+1:=by
   clear e h
   induction l with
   | nil=>exact Nat.zero_le _
   | cons x l ih=>
    obtain⟨h1,h2⟩:=List.nodup_cons.mp hd
    by_cases c:x=n
    ·subst c
     have:l.filter (· ≠ x)=l:=by
      rw[List.filter_eq_self];intro a ha;have:a≠x:=fun z=>h1 (z▸ha)
      simpa using this
     rw[List.filter_cons,if_neg (by simp),this];exact bM _
    ·rw[List.filter_cons,if_pos (by simpa using c),List.length_cons,List.length_cons];have:=ih h2;lia
  lia
theorem nA.len{ds:List Int}{al:Nat->Bool}{gs:List Nat}{un:Option Nat}{gone ahead:List Nat}(pos:0<ds.length)(w:nA ds al gs un gone ahead):gone.length+ahead.length<=ds.length:=by
 rw[<-dW];exact jq _ _ w.nd fun k hk=>(w.ok k hk).lt pos
noncomputable def Td(ds:List Int)(al:Nat->Bool)(gs:List Nat)(un:Option Nat)(os:List Nat):Prop:=os.Pairwise (· < ·)/\∀ k,k∈os↔nF ds al gs un k
theorem Td.unique{ds:List Int}{al:Nat->Bool}{gs:List Nat}{un:Option Nat}{a b:List Nat}(h1:Td ds al gs un a)(h2:Td ds al gs un b):a=b:=
 L2.gA a b h1.1 h2.1 fun k=>(h1.2 k).trans (h2.2 k).symm
theorem Td.lt{ds:List Int}{al:Nat->Bool}{gs:List Nat}{un:Option Nat}{os:List Nat}(pos:0<ds.length)(h:Td ds al gs un os):∀ o∈os,o<ds.length:=fun o ho=>((h.2 o).mp ho).lt pos
theorem Td.len{ds:List Int}{al:Nat->Bool}{gs:List Nat}{un:Option Nat}{os:List Nat}(pos:0<ds.length)(h:Td ds al gs un os):os.length<=ds.length:=jq _ _ (fX h.1) (h.lt pos)
theorem Qp{ds:List Int}{al:Nat->Bool}{gs:List Nat}{p:Nat}(h:al p=true):next ds al gs p=kids ds p:=by
 unfold next;rw[if_pos h]
noncomputable def under(ds:List Int)(k:Nat):Option Nat->Bool
 | none=>true
 | some u=>bA ds k u
theorem xm{ds:List Int}{un:Option Nat}{k p:Nat}(h:par ds k=some p)(hu:un=some p∨under ds p un=true):under ds k un=true:=by
 cases un with
 | none=>rfl
 | some u=>
  show bA ds k u=true;rw[Et h,Bool.or_eq_true];rcases hu with e | e
  ·injection e with e
   left
   rw[e];exact beq_self_eq_true _
  ·exact .inr e
theorem nF.under{ds:List Int}{al:Nat->Bool}{gs:List Nat}{un:Option Nat}{k:Nat}(h:nF ds al gs un k):under ds k un=true:=by
 induction h with
 | top e=>
  subst e;rfl
 | root hk hp=>exact xm (iY hk) (.inl hp)
 | low hk _ ih=>exact xm (iY hk) (.inr ih)
end Tr
namespace L2
open PySem PySem.Spec PyProof.Rows
section
variable{X:Cx}
theorem gK:jz X (.builtin "isinstance") (fun xs H Q => ∃(x:V)(T:String)(t:Value)(b:Bool),xs=[x,.ty T]/\tQ X.K H x t/\PySem.W.kitOne X.K t (.type T)=some b/\Q (.bl b) H):=by
 intro pins s σ H xs us Q I r h;obtain⟨x,T,t,b,rfl,ty,e,q⟩:=h;obtain⟨u,w',rfl,r1,r2⟩:=vals2 r
 cases (show w'=Value.type T from r2)
 exact Mr I r1 ty e fun tk=>⟨.bl b,H,I.tok tk,rfl,q⟩
theorem YL(K:bO):PySem.W.kitOne K (.type "int") (.type "int")=some true:=by rfl
theorem YM(K:bO):PySem.W.kitOne K (.type "int") (.type "bool")=some false:=by rfl
end
end L2
namespace L2
open PySem
theorem O5{c:Bool}{A B:Prop}(h:c=true)(a:A):if c=true then A else B:=by rw[if_pos h];exact a
theorem qp{c:Bool}{A B:Prop}(h:c=false)(b:B):if c=true then A else B:=by rw[if_neg (by rw[h];decide)];exact b
end L2
namespace rG
open PySem L2
inductive Gd where
 | yes
 | is (b n:Int)
 | under (b n:Int)
 | inn (r:Int)
 | neg (g:Gd)
 | both (g h:Gd)
 | either (g h:Gd)
noncomputable def Gd.ht:Gd->Nat
 | .yes=>1
 | .is _ _=>1
 | .under _ _=>1
 | .inn _=>1
 | .neg g=>g.ht+1
 | .both g h=>1+max g.ht h.ht
 | .either g h=>1+max g.ht h.ht
theorem Gd.Yd:∀ g:Gd,1<=g.ht
 | .yes=>bM _
 | .is _ _=>bM _
 | .under _ _=>bM _
 | .inn _=>bM _
 | .neg _=>Nat.succ_le_succ (Nat.zero_le _)
 | .both _ _=>Nat.le_add_right _ _
 | .either _ _=>Nat.le_add_right _ _
noncomputable def at0(bx:List Int)(b:Int):Int:=bx.getD b.toNat 0
noncomputable def Gd.holds(op bx:List Int):Gd->Bool
 | .yes=>true
 | .is b n=>decide (V.int (at0 bx b)=V.int n)
 | .under b n=>decide (at0 bx b<n)
 | .inn r=>inV (.int r) (op.map V.int)
 | .neg g => !(g.holds op bx)
 | .both g h=>g.holds op bx&&h.holds op bx
 | .either g h=>g.holds op bx||h.holds op bx
noncomputable def Gd.ok(nb:Nat):Gd->Prop
 | .yes=>True
 | .is b _=>0<=b/\b<(nb:Int)
 | .under b _=>0<=b/\b<(nb:Int)
 | .inn _=>True
 | .neg g=>g.ok nb
 | .both g h=>g.ok nb/\h.ok nb
 | .either g h=>g.ok nb/\h.ok nb
noncomputable def aA(H H':Hp):Prop:=∀ b xs,H b=some (.tup xs)->H' b=some (.tup xs)
theorem aA.trans{H H1 H2:Hp}(a:aA H H1)(b:aA H1 H2):aA H H2:=fun c xs h=>b c xs (a c xs h)
theorem aA.of{H H':Hp}(s:aG H H'):aA H H':=fun b xs h=>s b _ h
theorem aA.lst{H:Hp}{p:Addr}{xs:List V}(h:H p=some (.lst xs))(o:HO):aA H (upd H p o):=fun b ys e=>by
 rw[zQ (bz e h (by intro z;cases z))];exact e
theorem aA.new{H:Hp}{p:Addr}(h:H p=none)(o:HO):aA H (upd H p o):=.of (zF h o)
theorem cM{H H':Hp}{p:Addr}(hp:H p=none)(s:aG H H')(o:HO):aG H (upd H' p o):=fun b u e=>by
 rw[zQ (zM e hp)];exact s b u e
inductive jc(H:Hp):V->Gd->Prop where
 | yes {a:Addr}:H a=some (.tup [.str "yes"])->jc H (.ref a) .yes
 | is {a:Addr} {b n:Int}:H a=some (.tup [.str "is",.int b,.int n])->jc H (.ref a) (.is b n)
 | under {a:Addr} {b n:Int}:H a=some (.tup [.str "under",.int b,.int n])->jc H (.ref a) (.under b n)
 | inn {a:Addr} {r:Int}:H a=some (.tup [.str "in",.int r])->jc H (.ref a) (.inn r)
 | neg {a:Addr} {v:V} {g:Gd}:H a=some (.tup [.str "not",v])->jc H v g->jc H (.ref a) (.neg g)
 | both {a:Addr} {v u:V} {g h:Gd}:H a=some (.tup [.str "both",v,u])->jc H v g->jc H u h->jc H (.ref a) (.both g h)
 | either {a:Addr} {v u:V} {g h:Gd}:H a=some (.tup [.str "either",v,u])->jc H v g->jc H u h->jc H (.ref a) (.either g h)
theorem jc.mono{H H':Hp}{v:V}{g:Gd}(x:jc H v g)(k:aA H H'):jc H' v g:=by
 induction x with
 | yes e=>exact .yes (k _ _ e)
 | is e=>exact .is (k _ _ e)
 | under e=>exact .under (k _ _ e)
 | inn e=>exact .inn (k _ _ e)
 | neg e _ i=>exact .neg (k _ _ e) i
 | both e _ _ i j=>exact .both (k _ _ e) i j
 | either e _ _ i j=>exact .either (k _ _ e) i j
theorem yN{x y:Str}{A B:Prop}(h:¬ x=y)(b:B):if decide (V.str x=V.str y)=true then A else B:=by
 rw[if_neg]
 ·exact b
 ·intro z;have z':=of_decide_eq_true z;injection z' with z'';exact h z''
theorem yO{x:Str}{A B:Prop}(a:A):if decide (V.str x=V.str x)=true then A else B:=by
 rw[if_pos (decide_eq_true rfl)];exact a
theorem wg{bx:List Int}{b:Int}(h0:0<=b)(h1:b<(bx.length:Int)):uQ (bx.map V.int) b=some (.int (at0 bx b)):=by
 have hk:b.toNat<bx.length:=by lia
 have e:(bx.map V.int)[b.toNat]? = some (.int (at0 bx b)):=by
  rw[gf,gq hk];unfold at0;rw[lX,gq hk];rfl
 have q:=yQ e;rw[Int.toNat_of_nonneg h0]at q;exact q
theorem tG(op:List Int):(op.map V.int).all mj=true:=by
 rw[List.all_eq_true];intro x hx;obtain⟨n,_,rfl⟩:=eQ.mp hx;rfl
end rG
namespace CN
open PySem L2 rG
structure Rm where
 nm:Str
 kind:Str
 depth:Int
 keeps:Str
 Ey:Str
 ins:V
 outs:V
noncomputable def JG(H:Hp)(v:V)(r:Rm):Prop:=∃ a:Addr,v = .ref a/\H a=some (.tup [.str r.nm,.str r.kind,.int r.depth,.str r.keeps,.str r.Ey,r.ins,r.outs])
inductive gW(H:Hp):List V->List Rm->Prop where
 | nil:gW H [] []
 | cons {v:V} {r:Rm} {vs:List V} {rs:List Rm}:JG H v r->gW H vs rs->gW H (v::vs) (r::rs)
theorem JG.mono{H H':Hp}{v:V}{r:Rm}(x:JG H v r)(k:aA H H'):JG H' v r:=by
 obtain⟨a,e,h⟩:=x;exact⟨a,e,k _ _ h⟩
theorem gW.mono{H H':Hp}{vs:List V}{rs:List Rm}(x:gW H vs rs)(k:aA H H'):gW H' vs rs:=by
 induction x with
 | nil=>exact .nil
 | cons h _ ih=>exact .cons (h.mono k) ih
theorem gW.length{H:Hp}{vs:List V}{rs:List Rm}(x:gW H vs rs):vs.length=rs.length:=by
 induction x with
 | nil=>rfl
 | cons _ _ ih=>rw[dz,dz,ih]
theorem gW.snoc{H:Hp}{vs:List V}{rs:List Rm}{v:V}{r:Rm}(x:gW H vs rs)(y:JG H v r):gW H (vs++[v]) (rs++[r]):=by
 induction x with
 | nil=>exact .cons y .nil
 | cons h _ ih=>exact .cons h ih
theorem gW.get{H:Hp}{vs:List V}{rs:List Rm}(x:gW H vs rs):∀ {k:Nat} {r:Rm},rs[k]? = some r->∃ v,vs[k]? = some v/\JG H v r:=by
 induction x with
 | nil=>intro k r h;simp at h
 | cons h _ ih=>
  intro k r e
  cases k with
  | zero=>
   simp at e;subst e;exact⟨_,rfl,h⟩
  | succ k=>exact ih (by simpa using e)
noncomputable def cW(H:Hp)(t:Addr)(rs:List Rm):Prop:=∃ vs,H t=some (.tup vs)/\gW H vs rs
theorem cW.mono{H H':Hp}{t:Addr}{rs:List Rm}(x:cW H t rs)(k:aA H H'):cW H' t rs:=by
 obtain⟨vs,h,r⟩:=x;exact⟨vs,k _ _ h,r.mono k⟩
noncomputable def aD(rs:List Rm):List Int:=rs.map (·.depth)
theorem yV(rs:List Rm):(aD rs).length=rs.length:=bZ _
theorem iM{rs:List Rm}{k:Nat}{r:Rm}(h:rs[k]? = some r):(aD rs).getD k 0=r.depth:=by
 unfold aD;rw[lX,gf,h];rfl
theorem cW.at{H:Hp}{t:Addr}{rs:List Rm}(x:cW H t rs){k:Nat}(h:k<rs.length):∃(vs:List V)(a:Addr)(r:Rm),H t=some (.tup vs)/\vs.length=rs.length/\rs[k]? = some r/\uQ vs ((k:Nat):Int)=some (.ref a)/\H a=some (.tup [.str r.nm,.str r.kind,.int r.depth,.str r.keeps,.str r.Ey,r.ins,r.outs]):=by
 obtain⟨vs,hv,hr⟩:=x;have e:rs[k]? = some rs[k]:=gq h;obtain⟨v,h1,a,rfl,h2⟩:=hr.get e;exact⟨vs,a,rs[k],hv,hr.length,e,yQ h1,h2⟩
noncomputable def Fit(rs:List Rm):Prop:=∀(k:Nat)(r:Rm),rs[k]? = some r->if k+1<rs.length/\(aD rs).getD k 0<(aD rs).getD (k+1) 0 then (r.kind = "one" ∨ r.kind = "all") else r.kind = "plain"
end CN
namespace JQ
open PySem L2 rG
inductive Dd where
 | say (w:Str)
 | set (b n:Int)
 | add (b n:Int)
 | send (e:Int)
inductive tU(H:Hp):V->Dd->Prop where
 | say {a:Addr} {w:Str}:H a=some (.tup [.str "say",.str w])->tU H (.ref a) (.say w)
 | set {a:Addr} {b n:Int}:H a=some (.tup [.str "set",.int b,.int n])->tU H (.ref a) (.set b n)
 | add {a:Addr} {b n:Int}:H a=some (.tup [.str "add",.int b,.int n])->tU H (.ref a) (.add b n)
 | send {a:Addr} {e:Int}:H a=some (.tup [.str "send",.int e])->tU H (.ref a) (.send e)
theorem tU.mono{H H':Hp}{v:V}{d:Dd}(x:tU H v d)(k:aA H H'):tU H' v d:=by
 cases x with
 | say e=>exact .say (k _ _ e)
 | set e=>exact .set (k _ _ e)
 | add e=>exact .add (k _ _ e)
 | send e=>exact .send (k _ _ e)
noncomputable def Dd.upd(sz bx:List Int):Dd->List Int
 | .set b n=>bx.set b.toNat n
 | .add b n=>bx.set b.toNat ((at0 bx b+n)%at0 sz b)
 | _=>bx
noncomputable def Dd.box:Dd->Option Int
 | .set b _=>some b
 | .add b _=>some b
 | _=>none
noncomputable def Dd.ok(nb:Nat)(d:Dd):Prop:=∀ b,d.box=some b->0<=b/\b<(nb:Int)
theorem Dd.Jb(sz bx:List Int)(d:Dd):(d.upd sz bx).length=bx.length:=by
 cases d <;> simp [Dd.upd]
theorem Vt{xs:List Int}{b:Int}(h0:0<=b)(h1:b<(xs.length:Int)):at0 xs b∈xs:=by
 unfold at0
 have hk:b.toNat<xs.length:=by lia
 rw[lX,gq hk];exact je hk
noncomputable def yW:Sp:=fun vs H Q _ => ∃(vd:V)(tb ts:Addr)(d:Dd)(bx sz:List Int),vs=[vd,.ref tb,.ref ts]/\tU H vd d/\H tb=some (.tup (bx.map V.int))/\H ts=some (.tup (sz.map V.int))/\d.ok bx.length/\bx.length=sz.length/\bx.length<=6/\(∀ z∈sz,0<z) ∧
 ∀(t:Addr)(H':Hp),aG H H'->H' t=some (.tup ((d.upd sz bx).map V.int))->Q (.ref t) H'
end JQ
namespace S9
open PySem L2 rG
noncomputable abbrev LA:=Hp->Addr->List Addr->Nat->List Int->Prop
structure qDZ(C:Addr)(L:LA):Prop where
 keep:∀ {H H':Hp} {p:Addr} {fp:List Addr} {m:Nat} {l:List Int},L H p fp m l->(∀ b∈fp,∀ o,H b=some o->H' b=some o)->L H' p fp m l
 there:∀ {H:Hp} {p:Addr} {fp:List Addr} {m:Nat} {l:List Int},L H p fp m l->∀ b∈fp,H b≠none
 obj:∀ {H:Hp} {p:Addr} {fp:List Addr} {m:Nat} {l:List Int},L H p fp m l->∃(dx:Addr)(fs:List (Str×V)),H p=some (.ins C dx fs)/\fs.lookup ("add" : Str)=none/\fs.lookup ("taken" : Str)=none/\fs.lookup ("waiting" : Str)=none
structure az(H H':Hp)(fp fp':List Addr):Prop where
 own:∀ b∈fp',b∈fp∨H b=none
 rest:∀ b o,H b=some o->b∉fp->H' b=some o
noncomputable def added(m:Nat)(l:List Int)(e:Int):List Int:=if l.length<m then l++[e] else l
theorem Nk{m:Nat}{l:List Int}{e:Int}(h:l.length<=m):(added m l e).length<=m:=by
 unfold added
 split
 ·rw[dW,gj];lia
 ·exact h
noncomputable def first:List Int->V
 | []=>.non
 | e::_=>.int e
noncomputable def Gv(C:Addr)(L:LA):Sp:=fun vs H Q _ => ∃(p dx:Addr)(m:Nat),vs=[.ref p,.int (m:Int)]/\H p=some (.ins C dx [])/\m<=12/\∀(fp:List Addr)(H':Hp),L H' p fp m []->(∀ b∈fp,b=p∨H b=none)->(∀ b o,H b=some o->b≠p->H' b=some o)->Q .non H'
noncomputable def WD(L:LA):Sp:=fun vs H Q _ => ∃(p:Addr)(fp:List Addr)(m:Nat)(l:List Int)(e:Int),vs=[.ref p,.int e]/\L H p fp m l/\l.length<=m/\m<=12/\∀(fp':List Addr)(H':Hp),L H' p fp' m (added m l e)->az H H' fp fp'->Q (.bl (decide (l.length<m))) H'
noncomputable def Jg(L:LA):Sp:=fun vs H Q _ => ∃(p:Addr)(fp:List Addr)(m:Nat)(l:List Int),vs=[.ref p]/\L H p fp m l/\l.length<=m/\m<=12/\∀(fp':List Addr)(H':Hp),L H' p fp' m l.tail->az H H' fp fp'->Q (first l) H'
noncomputable def xq(L:LA):Sp:=fun vs H Q _ => ∃(p:Addr)(fp:List Addr)(m:Nat)(l:List Int),vs=[.ref p]/\L H p fp m l/\l.length<=m/\m<=12/\∀(q:Addr)(fp':List Addr)(H':Hp),L H' p fp' m l->az H H' fp fp'->H q=none->q∉fp'->H' q=some (.lst (l.map V.int))->Q (.ref q) H'
end S9
namespace JQ
open PySem L2 rG S9
inductive Rc where
 | say (w:Str)
 | put (b v:Int)
 | send (e:Int)
 | lost (e:Int)
noncomputable def Rc.row:Rc->List V
 | .say w=>[.str "say",.str w]
 | .put b v=>[.str "put",.int b,.int v]
 | .send e=>[.str "send",.int e]
 | .lost e=>[.str "lost",.int e]
inductive iw(H:Hp):List V->List Rc->Prop where
 | nil:iw H [] []
 | cons {a:Addr} {r:Rc} {vs:List V} {rs:List Rc}:H a=some (.tup r.row)->iw H vs rs->iw H (.ref a::vs) (r::rs)
theorem iw.mono{H H':Hp}{vs:List V}{rs:List Rc}(x:iw H vs rs)(k:aA H H'):iw H' vs rs:=by
 induction x with
 | nil=>exact .nil
 | cons h _ ih=>exact .cons (k _ _ h) ih
theorem iw.length{H:Hp}{vs:List V}{rs:List Rc}(x:iw H vs rs):vs.length=rs.length:=by
 induction x with
 | nil=>rfl
 | cons _ _ ih=>rw[dz,dz,ih]
theorem iw.snoc{H:Hp}{vs:List V}{rs:List Rc}{a:Addr}{r:Rc}(x:iw H vs rs)(y:H a=some (.tup r.row)):iw H (vs++[.ref a]) (rs++[r]):=by
 induction x with
 | nil=>exact .cons y .nil
 | cons h _ ih=>exact .cons h ih
inductive gO(H:Hp):List V->List Dd->Prop where
 | nil:gO H [] []
 | cons {v:V} {d:Dd} {vs:List V} {ds:List Dd}:tU H v d->gO H vs ds->gO H (v::vs) (d::ds)
theorem gO.mono{H H':Hp}{vs:List V}{ds:List Dd}(x:gO H vs ds)(k:aA H H'):gO H' vs ds:=by
 induction x with
 | nil=>exact .nil
 | cons h _ ih=>exact .cons (h.mono k) ih
theorem gO.length{H:Hp}{vs:List V}{ds:List Dd}(x:gO H vs ds):vs.length=ds.length:=by
 induction x with
 | nil=>rfl
 | cons _ _ ih=>rw[dz,dz,ih]
theorem gO.snoc{H:Hp}{vs:List V}{ds:List Dd}{v:V}{d:Dd}(x:gO H vs ds)(y:tU H v d):gO H (vs++[v]) (ds++[d]):=by
 induction x with
 | nil=>exact .cons y .nil
 | cons h _ ih=>exact .cons h ih
theorem gO.get{H:Hp}{vs:List V}{ds:List Dd}(x:gO H vs ds):∀ {k:Nat} {v:V},vs[k]? = some v->∃ d,ds[k]? = some d/\tU H v d:=by
 induction x with
 | nil=>intro k v h;simp at h
 | cons h _ ih=>
  intro k v e
  cases k with
  | zero=>
   simp at e;subst e;exact⟨_,rfl,h⟩
  | succ k=>exact ih (by simpa using e)
noncomputable def Dd.YD(m:Nat)(l:List Int):Dd->List Int
 | .send e=>added m l e
 | _=>l
noncomputable def Dd.rc(sz:List Int)(m:Nat)(bx l:List Int):Dd->Rc
 | .say w=>.say w
 | .set b n=>.put b (at0 ((Dd.set b n).upd sz bx) b)
 | .add b n=>.put b (at0 ((Dd.add b n).upd sz bx) b)
 | .send e=>if l.length<m then .send e else .lost e
noncomputable def vY(sz:List Int):List Dd->List Int->List Int
 | [],bx=>bx
 | d::ds,bx=>vY sz ds (d.upd sz bx)
noncomputable def vW(m:Nat):List Dd->List Int->List Int
 | [],l=>l
 | d::ds,l=>vW m ds (d.YD m l)
noncomputable def uL(sz:List Int)(m:Nat):List Dd->List Int->List Int->List Rc
 | [],_,_=>[]
 | d::ds,bx,l=>d.rc sz m bx l::uL sz m ds (d.upd sz bx) (d.YD m l)
theorem ye(sz:List Int)(d:Dd):∀(ds:List Dd)(bx:List Int),vY sz (ds++[d]) bx=d.upd sz (vY sz ds bx)
 | [],bx=>rfl
 | x::ds,bx=>ye sz d ds _
theorem yd(m:Nat)(d:Dd):∀(ds:List Dd)(l:List Int),vW m (ds++[d]) l=d.YD m (vW m ds l)
 | [],l=>rfl
 | x::ds,l=>yd m d ds _
theorem yc(sz:List Int)(m:Nat)(d:Dd):∀(ds:List Dd)(bx l:List Int),uL sz m (ds++[d]) bx l=uL sz m ds bx l++[d.rc sz m (vY sz ds bx) (vW m ds l)]
 | [],bx,l=>rfl
 | x::ds,bx,l=>by
  show _::uL sz m (ds++[d]) _ _=_::(uL sz m ds _ _++_);rw[yc sz m d ds];rfl
theorem vX(sz:List Int):∀(ds:List Dd)(bx:List Int),(vY sz ds bx).length=bx.length
 | [],bx=>rfl
 | d::ds,bx=>by
  show (vY sz ds (d.upd sz bx)).length=_;rw[vX sz ds,d.Jb]
theorem vV{m:Nat}:∀(ds:List Dd)(l:List Int),l.length<=m->(vW m ds l).length<=m
 | [],l,h=>h
 | d::ds,l,h=>by
  show (vW m ds (d.YD m l)).length<=m;refine vV ds _ ?_
  cases d with
  | send e=>exact Nk h
  | _=>exact h
theorem qU(sz:List Int)(m:Nat):∀(ds:List Dd)(bx l:List Int),(uL sz m ds bx l).length=ds.length
 | [],_,_=>rfl
 | d::ds,bx,l=>by
  show (uL sz m ds _ _).length+1=ds.length+1;rw[qU sz m ds]
noncomputable def wY(fp:List Addr)(H:Hp):Hp:=fun b=>if b∈fp then none else H b
theorem oK{fp:List Addr}{H:Hp}{b:Addr}{o:HO}(h:wY fp H b=some o):H b=some o/\b∉fp:=by
 unfold wY at h
 split at h
 ·cases h
 ·exact⟨h,by assumption⟩
theorem qz{fp:List Addr}{H:Hp}{b:Addr}{o:HO}(h:H b=some o)(n:b∉fp):wY fp H b=some o:=by
 unfold wY;rw[if_neg n];exact h
theorem LK{fp:List Addr}{H:Hp}{b:Addr}(h:b∈fp):wY fp H b=none:=by
 unfold wY;rw[if_pos h]
noncomputable def PN(L:LA):Sp:=fun vs H Q _ => ∃(td tb ts p:Addr)(ds:List Dd)(bx sz l:List Int)(dv:List V)(fp:List Addr)(m:Nat)(G:Hp),vs=[.ref td,.ref tb,.ref ts,.ref p]/\aG G H/\(∀ b∈fp,G b=none)/\G td=some (.tup dv)/\gO G dv ds/\G tb=some (.tup (bx.map V.int))/\G ts=some (.tup (sz.map V.int))/\L H p fp m l ∧
 (∀ d∈ds,d.ok bx.length)/\ds.length<=8/\bx.length=sz.length/\bx.length<=6/\(∀ z∈sz,0<z)/\l.length<=m/\m<=12 ∧
 ∀(t tb' pr:Addr)(rv:List V)(fp':List Addr)(H':Hp),L H' p fp' m (vW m ds l)->az H H' fp fp'->H' t=some (.tup [.ref tb',.ref pr])->H' tb'=some (.tup ((vY sz ds bx).map V.int))->tb'∉fp'->H' pr=some (.lst rv)->H pr=none->iw H' rv (uL sz m ds bx l)->Q (.ref t) H'
end JQ
namespace L2
open PySem
section
variable{X:Cx}{es:List Expr}{te:TE}{t:TA}
theorem qB2{o:UnaryOp}{e:Expr}{p:Pos}(ha:PE X (.UnaryOp o e p) te)(hr:PA X es t):PA X (.UnaryOp o e p::es) (qC te t):=zA ha hr rfl
theorem qES{o:Operator}{a b:Expr}{p:Pos}(ha:PE X (.BinOp a o b p) te)(hr:PA X es t):PA X (.BinOp a o b p::es) (qC te t):=zA ha hr rfl
end
end L2
namespace L2
open PySem PySem.Spec PyProof.Rows
section
variable{X:Cx}{a b c:Expr}{ta tb tc:TE}{pos:Pos}
noncomputable def qAG(p p':Int->Int->Bool)(ta tb tc:TE):TE:=fun σ H Q=>ta σ H fun x H1=>tb σ H1 fun y H2 => ∃ i j k,x = .int i/\y = .int j/\tc σ H2 (fun z H3=>z = .int k/\H3=H2)/\Q (.bl (p i j&&p' j k)) H2
theorem Xg{op op':CmpOp}{p p':Int->Int->Bool}(ho:jZ X (compareOp op) (Ly fun i j=>.bl (p i j)))(ho':jZ X (compareOp op') (Ly fun i j=>.bl (p' i j)))(ha:PE X a ta)(hb:PE X b tb)(hc:PE X c tc)
  (hm:lastMarks [op,op'] [b,c]=false:=by with_unfolding_all rfl):PE X (.Compare a [op,op'] [b,c] pos) (qAG p p' ta tb tc):=by
 intro pins s σ H Q I h;refine Compare_chain (au (ha pins s σ H _ I h) fun v s1 ⟨x,H1,I1,r1,q1⟩=>chain_link (au (hb pins s1 σ H1 _ I1 q1) fun u s2 ⟨y,H2,I2,r2,q2⟩=>?_)) hm;obtain⟨i,j,k,rfl,rfl,tq,q⟩:=q2;refine au (ho pins s2 σ H2 _ _ v u (fun z H3=>z = .bl (p i j)/\H3=H2) I2 r1 r2 ⟨i,j,rfl,rfl,rfl,rfl⟩) fun d s3 ⟨z,H3,I3,r3,e1,e2⟩=>?_;subst e1 e2
 cases r3
 refine wpAny_truthy_bool ?_
 cases e:p i j with
 | false=>
  rw[e,Bool.false_and]at q;exact ite_ff ⟨.bl false,_,I3,rfl,q⟩
 | true=>
  rw[e,Bool.true_and]at q
  exact ite_tt (chain_last (au (hc pins s3 σ _ _ I3 tq) fun w' s4 ⟨z',H4,I4,r4,e3,e4⟩=>by
   subst e3 e4
   exact ho' pins s4 σ _ _ _ u w' Q I4 r2 r4 ⟨j,k,rfl,rfl,q⟩))
theorem Q6{op op':CmpOp}{p p':Int->Int->Bool}(ho:jZ X (compareOp op) (Ly fun i j=>.bl (p i j)))(ho':jZ X (compareOp op') (Ly fun i j=>.bl (p' i j)))(ha:PE X a ta)(hb:PE X b tb)(hc:PE X c tc)
  (hm:lastMarks [op,op'] [b,c]=false:=by with_unfolding_all rfl):PT X (.Compare a [op,op'] [b,c] pos) (W6 (qAG p p' ta tb tc)):=by
 intro pins s σ H Q I h;refine isTrue_chain (au (ha pins s σ H _ I h) fun v s1 ⟨x,H1,I1,r1,q1⟩=>test_link (au (hb pins s1 σ H1 _ I1 q1) fun u s2 ⟨y,H2,I2,r2,q2⟩=>?_)) hm;obtain⟨i,j,k,rfl,rfl,tq,kk,ek,q⟩:=q2
 cases ek
 refine au (ho pins s2 σ H2 _ _ v u (fun z H3=>z = .bl (p i j)/\H3=H2) I2 r1 r2 ⟨i,j,rfl,rfl,rfl,rfl⟩) fun d s3 ⟨z,H3,I3,r3,e1,e2⟩=>?_;subst e1 e2
 cases r3
 refine wpAny_truthy_bool ?_
 cases e:p i j with
 | false=>
  rw[e,Bool.false_and]at q;exact ite_ff ⟨_,I3,q⟩
 | true=>
  rw[e,Bool.true_and]at q;refine ite_tt (test_last (au (hc pins s3 σ _ _ I3 tq) fun w' s4 ⟨z',H4,I4,r4,e3,e4⟩=>?_));subst e3 e4;refine au (ho' pins s4 σ _ _ _ u w' (fun z H5=>z = .bl (p' j k)/\H5=H4) I4 r2 r4 ⟨j,k,rfl,rfl,rfl,rfl⟩) fun d' s5 ⟨z2,H5,I5,r5,e5,e6⟩=>?_;subst e5 e6
  cases r5
  exact wpAny_truthy_bool ⟨_,I5,q⟩
end
theorem fH{c:Bool}{A B:Prop}(h1:c=true->A)(h2:c=false->B):if c=true then A else B:=by
 cases c with
 | true=>
  rw[if_pos rfl];exact h1 rfl
 | false=>
  rw[if_neg pZ];exact h2 rfl
section
variable{X:Cx}
theorem sY:fillsNumberSlot (.type "tuple") "mul" = pure false:=
 PySem.fillsNumberSlot_seq (id := "tuple.__mul__") (r:=some (.builtin "tuple.__rmul__")) F.slot_tuple_mul.lookup (by decide +kernel) F.slot_tuple_rmul.lookup (by decide +kernel)
theorem Ba:seqRepeat? (.type "tuple")=pure (some (.builtin "tuple.__mul__")):=by
 unfold seqRepeat?;rw[PySem.seqSlot_of (T := "tuple") (name := "__mul__") (id := "tuple.__mul__") F.slot_tuple_mul.lookup (by decide +kernel),PySem.seqSlot_of (T := "tuple") (name := "__rmul__") (id := "tuple.__rmul__") F.slot_tuple_rmul.lookup (by decide +kernel)];rfl
theorem HJ(a:Int)(t:Tok)(l:Addr)(items:Array Value)(n:Nat)(dd:Option Addr)(sl:Array (Option Value)) :
  Meets (Builtin.«int.__rmul__» ⟨[.int a t,.ref l],[]⟩) (fun _ R s=>s.heap.get? l=some { cls:=.type "tuple",dict:=dd,data:=.seq items n,slots:=sl }/\R (.ok (.ret Value.notImplemented)) s):=
 .of_wp fun prog w A R s h=>by obtain⟨hp,g,d,tk,os⟩:=s;obtain⟨hl,h⟩:=h;wp_walk;exact⟨_,rfl,h⟩
theorem Og(l:Addr)(items:Array Value)(n:Nat)(dd:Option Addr)(sl:Array (Option Value))(x:Int)(u:Tok)(hx:x=1) :
  Meets (Builtin.«tuple.__mul__» ⟨[.ref l,.int x u],[]⟩) (fun _ R s=>s.heap.get? l=some { cls:=.type "tuple",dict:=dd,data:=.seq items n,slots:=sl }/\R (.ok (.ret (Value.ref l))) { s with heap:=s.heap,toks:=s.toks }):=
 .of_wp fun prog w A R s h=>by
  subst hx;obtain⟨hp,g,d,tk,os⟩:=s;obtain⟨hl,h⟩:=h;have f1:=AutoSeq1.idx_int
  wp_walk using wpAny_loadPart' hl
  exact⟨_,rfl,h⟩
theorem Oe(l:Addr)(items:Array Value)(n:Nat)(dd:Option Addr)(sl:Array (Option Value))(x:Int)(u:Tok)(h2:2<=x)(hc:¬ items.isEmpty=true)(hz:items.size*x<=(sizeLine:Int))(hf:((List.replicate x.toNat items).foldl (· ++ ·) #[]).size<=sizeLine) :
  Meets (Builtin.«tuple.__mul__» ⟨[.ref l,.int x u],[]⟩) (fun _ R s=>s.heap.get? l=some { cls:=.type "tuple",dict:=dd,data:=.seq items n,slots:=sl }/\R (.ok (.ret (Value.ref s.heap.objs.size))) { s with heap:=s.heap.push { cls:=Value.type "tuple",data:=Data.seq ((List.replicate x.toNat items).foldl (· ++ ·) #[]) },toks:=s.toks }):=
 .of_wp fun prog w A R s h=>by
  obtain⟨hp,g,d,tk,os⟩:=s;obtain⟨hl,h⟩:=h;have f1:=AutoSeq1.idx_int
  have hp0:1<=items.size:=by
   refine Nat.pos_of_ne_zero fun z=>hc ?_;rw[Array.isEmpty_iff];exact Array.eq_empty_of_size_eq_zero z
  have hxs:x<=(sizeLine:Int):=by
   have:(1:Int)*x<=items.size*x:=Int.mul_le_mul_of_nonneg_right (by lia) (by lia);lia
  have e1:(sizeLine:Int)<2 ^ 62:=by decide
  have c1:¬ (decide (x < -(2 ^ 63))||decide (x≥2 ^ 63))=true:=by
   rw[decide_eq_false (by lia),decide_eq_false (by lia)];decide
  have c2:¬ (items.isEmpty||x==1)=true:=by
   intro z;rcases Bool.or_eq_true_iff.mp z with z | z
   ·exact hc z
   ·have:=eq_of_beq z;lia
  have c3:¬ (decide (x<=0)||items.isEmpty)=true:=by
   intro z;rcases Bool.or_eq_true_iff.mp z with z | z
   ·have:=of_decide_eq_true z;lia
   ·exact hc z
  have e2:(sizeLine:Int)<(2 ^ 63-1)/8:=by decide
  have c4:¬ ((items.size:Int)*x>(2 ^ 63-1)/8):=by lia
  have c5:¬ Builtin.Tuple.tupleTooMany ((items.size:Int)*x)=true:=by
   unfold Builtin.Tuple.tupleTooMany;intro z;have:=of_decide_eq_true z;lia
  wp_walk using wpAny_loadPart' hl
  refine wpAny_ite_false (decide_eq_false c1) ?_
  wp_walk using wpAny_loadPart' hl
  refine wpAny_ite_false (decide_eq_false c2) ?_
  wp_walk using wpAny_loadPart' hl
  refine wpAny_ite_false (decide_eq_false c3) ?_
  wp_walk using wpAny_loadPart' hl
  refine wpAny_ite_false (decide_eq_false c4) ?_
  wp_walk using wpAny_loadPart' hl
  exact⟨_,rfl,h⟩
noncomputable def qAY(K:bO):R2:=fun x y H Q => ∃ a k xs,x = .ref a/\y = .int k/\aK K H a xs/\xs≠[]/\1<=k/\xs.length*k<=(sizeLine:Int)/\(k=1->Q (.ref a) H)/\(2<=k->∀ p,H p=none->Q (.ref p) (upd H p (.tup (List.replicate k.toNat xs).flatten)))
theorem Us:jZ X (binaryOp .Mult) (qAY X.K):=by
 intro pins s σ H x y v u Q I rx ry h;obtain⟨a,k,xs,rfl,rfl,ha,hne,hk,hz,q1,q2⟩:=h
 cases rx
 obtain⟨t,rfl⟩:=ry;obtain⟨its,r1,p1,_⟩:=I.tuple ha;have hl:=r1.length;have hni:its≠[]:=fun z=>hne (r1.qg.mp z);obtain⟨⟨cls,dd,data,sl⟩,ho,hc,n,hd⟩:=id p1;simp only at hc hd;subst hc hd
 have f0:∀ m:Nat,List.foldl (fun x1 x2=>x1++x2) #[] (List.replicate m its.toArray)=(List.replicate m its).flatten.toArray:=fun m=>by
  have:=foldl_rep its m [];rw[List.nil_append]at this;exact this
 have hmul:(List.replicate k.toNat xs).flatten.length<=sizeLine:=by
  rw[len_rep]
  have e:((k.toNat*xs.length:Nat):Int)=xs.length*k:=by
   rw[Int.natCast_mul,Int.toNat_of_nonneg (by lia),Int.mul_comm]
  lia
 refine wpAny_binaryOp_repeat_ref (T := "tuple") (U := "int") (by decide) ⟨_,ho,rfl⟩ (fun s'=>typeIs_int s' k t) sY F.fills_int_mul F.slot_int_rmul Ba F.slot_int_index.lookup
  (call_meets F.slot_int_rmul (typeIs_int s k t) F.entry_int_rmul (F.args_int_rmul_2 _ _) (HJ k t a its.toArray n dd sl) ⟨ho,rfl,⟨_,ho,rfl⟩,?_⟩)
 by_cases h1:k=1
 ·exact call_meets F.slot_tuple_mul ⟨_,ho,rfl⟩ F.entry_tuple_mul (F.args_tuple_mul_2 _ _) (Og a its.toArray n dd sl k t h1) ⟨ho,⟨.ref a,H,I,rfl,q1 h1⟩⟩
 ·have h2:2<=k:=by lia
  refine call_meets F.slot_tuple_mul ⟨_,ho,rfl⟩ F.entry_tuple_mul (F.args_tuple_mul_2 _ _) (Oe a its.toArray n dd sl k t h2 (by simpa using hni) (by rw[List.size_toArray,<-hl];exact hz) ?_) ⟨ho,?_⟩
  ·rw[f0,xf,len_rep,<-hl,<-len_rep];exact hmul
  ·rw[f0];refine⟨.ref s.heap.objs.size,_,I.laid (t':=s.toks) (o:=.tup (List.replicate k.toNat xs).flatten) (fun b ob q=>j5 _ q) (bM _) ?_,rfl,q2 h2 _ (I.hok.fresh (bM _))⟩;exact⟨hmul,_,r1.rep k.toNat,IsTup.new _ _⟩
end
end L2
namespace PySem
structure iu(prog:Program)(w:World)(K:Type) [DecidableEq K] (d:Nat) where
 has:Nat->Heap->K->Value->Prop
 hsh:K->Int
 J0:K->Nat
 one:∀ {i:Nat} {h:Heap} {v:Value} {x y:K},has i h x v->has i h y v->x=y
 stay:∀ {i:Nat} {h h':Heap} {v:Value} {x:K},has i h x v->(∀ a o its n,h.get? a=some o->o.data = .seq its n->h'.get? a=some o)->has i h' x v
 hashed:∀ {i:Nat} {A:Around} {E:Value->Shared->Prop} {s:Shared} {x:K} {v:Value} {Q:Int->Shared->Prop},A.units+d<cLine->has i s.heap x v->Q (hsh x) { s with toks:=s.toks+J0 x }->wpAny (model prog w) A (pyHash v) Q E s
 same:∀ {i:Nat} {A:Around} {E:Value->Shared->Prop} {s:Shared} {x y:K} {u v:Value} {Q:Bool->Shared->Prop},A.units+d<cLine->has i s.heap x u->has i s.heap y v->Q (decide (x=y)) s->wpAny (model prog w) A (eqBool u v) Q E s
 still:∀ {i:Nat} {A:Around} {E:Value->Shared->Prop} {s:Shared} {x:K} {v:Value} {Q:Bool->Shared->Prop} (n:Nat),d<=n->has i s.heap x v->Q true s->wpAny (model prog w) A (eqIsQuiet n v) Q E s
noncomputable def iu.leaf{prog:Program}{w:World}{K:Type} [DecidableEq K] (knd:KeyKind prog w K):iu prog w K 0 where
 has:=fun _ _ k v=>knd.is k v=true
 hsh:=knd.hash
 J0:=fun _=>1
 one:=fun hx hy=>knd.inj _ _ _ hx hy
 stay:=fun hx _=>hx
 hashed:=fun _ hx q=>knd.pyHash hx q
 same:=fun _ hx hy q=>knd.eqBool hx hy q
 still:=fun n _ hx q=>by
  rw[eqIsQuiet_byValue n (knd.byValue _ _ hx)];exact wpAny_pure q
noncomputable def iu.two{prog:Program}{w:World}{K L:Type} [DecidableEq K] [DecidableEq L] {d:Nat} (F:iu prog w K d) (G:iu prog w L d):iu prog w (K ⊕ L) d where
 has:=fun i h k v=>match k with
  | .inl x=>i=0/\F.has 0 h x v
  | .inr y=>i≠0/\G.has i h y v
 hsh:=fun k=>match k with
  | .inl x=>F.hsh x
  | .inr y=>G.hsh y
 J0:=fun k=>match k with
  | .inl x=>F.J0 x
  | .inr y=>G.J0 y
 one:=by
  rintro i h v (x | x) (y | y) ⟨e1,hx⟩ ⟨e2,hy⟩
  ·rw[F.one hx hy]
  ·exact absurd e1 e2
  ·exact absurd e2 e1
  ·rw[G.one hx hy]
 stay:=by
  rintro i h h' v (x | x) ⟨e1,hx⟩ k
  ·exact⟨e1,F.stay hx k⟩
  ·exact⟨e1,G.stay hx k⟩
 hashed:=by
  rintro i A E s (x | x) v Q hu ⟨e1,hx⟩ q
  ·exact F.hashed hu hx q
  ·exact G.hashed hu hx q
 same:=by
  rintro i A E s (x | x) (y | y) u v Q hu ⟨e1,hx⟩ ⟨e2,hy⟩ q
  ·refine F.same hu hx hy ?_;rw[show decide (x=y)=decide ((Sum.inl x:K ⊕ L)=Sum.inl y) from decide_eq_decide.mpr ⟨fun z=>by rw[z],fun z=>Sum.inl.inj z⟩];exact q
  ·exact absurd e1 e2
  ·exact absurd e2 e1
  ·refine G.same hu hx hy ?_;rw[show decide (x=y)=decide ((Sum.inr x:K ⊕ L)=Sum.inr y) from decide_eq_decide.mpr ⟨fun z=>by rw[z],fun z=>Sum.inr.inj z⟩];exact q
 still:=by
  rintro i A E s (x | x) v Q n hn ⟨e1,hx⟩ q
  ·exact F.still n hn hx q
  ·exact G.still n hn hx q
noncomputable def iu.up{prog:Program}{w:World}{K:Type} [DecidableEq K] {d:Nat} (F:iu prog w K d) (e:Nat) (le:d<=e):iu prog w K e where
 has:=F.has
 hsh:=F.hsh
 J0:=F.J0
 one:=F.one
 stay:=F.stay
 hashed:=fun hu hx q=>F.hashed (by lia) hx q
 same:=fun hu hx hy q=>F.same (by lia) hx hy q
 still:=fun n hn hx q=>F.still n (by lia) hx q
section
variable{prog:Program}{w:World}{K:Type} [DecidableEq K] {d:Nat} (F:iu prog w K d)
inductive Gb(h:Heap):Nat->List K->List Value->Prop
 | nil {i:Nat}:Gb h i [] []
 | cons {i:Nat} {k:K} {v:Value} {ks:List K} {vs:List Value}:F.has i h k v->Gb h (i+1) ks vs->Gb h i (k::ks) (v::vs)
noncomputable def uR(h:Heap)(ks:List K)(v:Value):Prop:=∃ a o its n,v = .ref a/\h.get? a=some o/\o.cls = .type "tuple" /\ o.data = .seq its n/\Gb F h 0 ks its.toList
variable {F}
theorem Gb.one{h:Heap}{i:Nat}{x y:List K}{vs:List Value}(hx:Gb F h i x vs)(hy:Gb F h i y vs):x=y:=by
 induction hx generalizing y with
 | nil=>
  cases hy
  rfl
 | cons a _ ih=>
  cases hy with
  | cons b t=>rw[F.one a b,ih t]
theorem Gb.stay{h h':Heap}{i:Nat}{x:List K}{vs:List Value}(hx:Gb F h i x vs)(k:∀ a o its n,h.get? a=some o->o.data = .seq its n->h'.get? a=some o):Gb F h' i x vs:=by
 induction hx with
 | nil=>exact .nil
 | cons a _ ih=>exact .cons (F.stay a k) ih
noncomputable def Yg(F:iu prog w K d)(ks:List K):Int:=reduceHash (Builtin.Tuple.tupleHashOf (ks.map F.hsh))
noncomputable def Yu(F:iu prog w K d)(ks:List K):Nat:=(ks.map F.J0).sum+1
variable{A:Around}{E:Value->Shared->Prop}{s:Shared}
theorem Vd{ks:List K}{v:Value}{Q:Int->Shared->Prop}(hu:A.units+(d+1)<cLine)(hk:uR F s.heap ks v)(h:Q (Yg F ks) { s with toks:=s.toks+Yu F ks }):wpAny (model prog w) A (pyHash v) Q E s:=by
 obtain⟨a,o,its,n,rfl,ho,oc,od,hi⟩:=hk;have ty:s.TypeIs (.ref a) "tuple" := ⟨o,ho,oc⟩;unfold pyHash
 (first | unfold pyHashByItsType | skip)
 (first | refine wpAny_bind (wpAny_cRoomFor_or (.inr (by lia)) ?_) | skip)
 refine wpAny_bind (wpAny_specialOf ty PySem.F.slot_tuple_hash.lookup ?_);show wpAny _ _ (if (some (Value.builtin "tuple.__hash__")==some Value.none)=true then _ else _) Q E s;rw[if_neg (by rw[beq_builtin_none];simp)];refine wpAny_bind (wpAny_specialOf ty PySem.F.slot_tuple_hash.lookup ?_);show wpAny _ _ (callSpecialIfBoundUnlessNone? (Value.ref a) "__hash__" _ >>= _) Q E s;refine wpAny_bind (wpAny_callSpecialIfBoundUnlessNone?_slot ty PySem.F.slot_tuple_hash (wpAny_call_entry PySem.F.slot_tuple_hash ty PySem.F.entry_tuple_hash ?_ (PySem.F.args_tuple_hash_1 _)));show wpAny _ _ (Builtin.Tuple.tupleItemsOf (Value.ref a) >>= _) _ _ s;refine wpAny_bind (wpAny_tupleItemsOf ho od (wpAny_bind ?_));rw[<-Array.forIn_toList];refine wpAny_forIn_list _
  (fun rest (b:Array Int) s'=>∃ i dn left,ks=dn++left/\Gb F s.heap i left rest/\b.toList=dn.map F.hsh/\s' = { s with toks:=s.toks+(dn.map F.J0).sum }) _ ?_ ?_ _ _ ⟨0,[],ks,rfl,hi,rfl,rfl⟩
 ·rintro x rest b s' ⟨i,dn,left,rfl,hl,hb,rfl⟩
  cases hl with
  | @cons _ k _ ks' _ h1 hl'=>
   refine wpAny_bind (F.hashed (s:={ s with toks:=s.toks+(dn.map F.J0).sum }) (by show A.units+1+d<cLine;lia) h1 ?_)
   (first
    | exact wpAny_pure ⟨i+1,dn++[k],ks',by simp,hl',by simp [hb],by simp [Nat.add_assoc]⟩
    | exact wpAny_bind (wpAny_pure (wpAny_pure ⟨i+1,dn++[k],ks',by simp,hl',by simp [hb],by simp [Nat.add_assoc]⟩)))
 ·rintro b s' ⟨i,dn,left,rfl,hl,hb,rfl⟩
  cases hl
  rw[gQ]at h;show wpAny _ _ (retInt (Builtin.Tuple.tupleHashOf b.toList)) _ _ _;rw[hb];refine wpAny_ret_mkInt ?_;show wpAny _ _ (if (decide (-(2:Int) ^ 63<=Builtin.Tuple.tupleHashOf (dn.map F.hsh))&&decide (Builtin.Tuple.tupleHashOf (dn.map F.hsh)<2 ^ 63))=true then _ else _) Q E _;unfold Yg reduceHash Yu at h
  by_cases hr:(decide (-(2:Int) ^ 63<=Builtin.Tuple.tupleHashOf (dn.map F.hsh))&&decide (Builtin.Tuple.tupleHashOf (dn.map F.hsh)<2 ^ 63))=true
  ·rw[if_pos hr]at h ⊢;exact wpAny_pure (by simpa [Nat.add_assoc] using h)
  ·rw[if_neg hr]at h ⊢;exact wpAny_bind (wpAny_rule (wpAny_pure (by simpa [Nat.add_assoc] using h)))
theorem Fd{x y:List K}{a b:Addr}{P:Fin->Shared->Prop}(hu:A.units+d<cLine)(hx:uR F s.heap x (.ref a))(hy:uR F s.heap y (.ref b))(h:P (.done (.ret (.bool (decide (x=y))))) s):wpAny (model prog w) A (Builtin.«tuple.__eq__» ⟨[.ref a,.ref b],[]⟩) P E s:=by
 obtain⟨a',oa,xs,na,ea,hoa,_,hda,hia⟩:=hx;obtain⟨b',ob,ys,nb,eb,hob,hcb,hdb,hib⟩:=hy
 cases ea
 cases eb
 have tb:s.TypeIs (.ref b) "tuple" := ⟨ob,hob,hcb⟩;show wpAny _ _ (isInstance (Value.ref b) (.type "tuple") >>= _) _ _ s;refine wpAny_bind (wpAny_isInstance tb isSubtype_tuple_tuple ?_);simp only[Bool.not_true,Bool.false_eq_true,if_false];refine wpAny_bind (wpAny_tupleItemsOf hoa hda (wpAny_bind (wpAny_tupleItemsOf hob hdb (wpAny_bind ?_))));refine wpAny_forIn_list _
  (fun rest r s'=>r.1=none/\s'=s/\∃ i x' y' xs' ys',rest=List.zip xs' ys'/\Gb F s.heap i x' xs'/\Gb F s.heap i y' ys'/\decide (x'=y')=decide (x=y)/\(xs'.length==ys'.length)=(xs.size==ys.size))
  _ ?_ ?_ _ _ ⟨rfl,rfl,0,x,y,xs.toList,ys.toList,rfl,hia,hib,rfl,by simp⟩
 ·rintro⟨u,v⟩ rest r s' ⟨hr,rfl,i,x',y',xs',ys',hz,hx',hy',hdec,hlen⟩
  cases hx' with
  | nil=>simp at hz
  | @cons _ k1 u' x'' xs'' h1 hx''=>
   cases hy' with
   | nil=>simp at hz
   | @cons _ k2 v' y'' ys'' h2 hy''=>
    simp only[List.zip_cons_cons,List.cons.injEq,Prod.mk.injEq]at hz;obtain⟨⟨rfl,rfl⟩,rfl⟩:=hz;refine wpAny_bind (F.same (x:=k1) (y:=k2) hu h1 h2 ?_)
    by_cases hk:k1=k2
    ·subst hk;rw[decide_eq_true rfl];simp only[Bool.not_true,Bool.false_eq_true,if_false];refine wpAny_pure ⟨rfl,rfl,i+1,x'',y'',xs'',ys'',rfl,hx'',hy'',?_,by simpa using hlen⟩;rw[<-hdec]
     by_cases hxy:x''=y''
     ·simp [hxy]
     ·simp [hxy]
    ·rw[decide_eq_false hk];simp only[Bool.not_false,if_true]
     have hf:decide (x=y)=false:=by
      rw[<-hdec];simp [hk]
     rw[hf]at h;exact wpAny_bind (wpAny_pure (wpAny_pure (wpAny_pure h)))
 ·rintro⟨r1,r2⟩ s' ⟨hr,rfl,i,x',y',xs',ys',hz,hx',hy',hdec,hlen⟩;simp only at hr;subst hr;refine wpAny_pure ?_
  have fin:(xs.size==ys.size)=decide (x=y):=by
   rw[<-hdec,<-hlen]
   cases hx' with
   | nil=>
    cases hy' with
    | nil=>simp
    | cons _ _=>simp
   | cons _ _=>
    cases hy' with
    | nil=>simp
    | cons _ _=>simp at hz
  show P (.done (.ret (.bool (xs.size==ys.size)))) s';rw[fin];exact h
theorem qAM{x y:List K}{u v:Value}{Q:Bool->Shared->Prop}(hu:A.units+(d+1)<cLine)(hx:uR F s.heap x u)(hy:uR F s.heap y v)(h:Q (decide (x=y)) s):wpAny (model prog w) A (eqBool u v) Q E s:=by
 obtain⟨a,oa,xs,na,rfl,hoa,hca,hda,hia⟩:=id hx;obtain⟨b,ob,ys,nb,rfl,hob,hcb,hdb,hib⟩:=id hy;have ta:s.TypeIs (.ref a) "tuple" := ⟨oa,hoa,hca⟩;have tb:s.TypeIs (.ref b) "tuple" := ⟨ob,hob,hcb⟩;unfold eqBool
 (try with_reducible refine wpAny_holding ?_)
 show wpAny _ _ (if (Value.ref a==Value.ref b)=true then _ else _) Q E s
 by_cases hab:(Value.ref a==Value.ref b)=true
 ·rw[if_pos hab]
  have e:a=b:=by
   have:=eq_of_beq hab;injection this
  subst e;rw[hoa]at hob
  cases hob
  rw[hda]at hdb
  cases hdb
  obtain rfl:=hia.one hib;exact wpAny_bind (wpAny_rule (wpAny_pure (by simpa using h)))
 ·rw[if_neg hab]
  exact wpAny_bind (wpAny_richCompare_same_room (op:=.Eq) ta tb PySem.F.slot_tuple_eq
   (wpAny_call_entry PySem.F.slot_tuple_eq ta PySem.F.entry_tuple_eq (Fd (by show A.units+1+d<cLine;lia) hx hy ⟨_,rfl,(fun e=>nomatch e),wpAny_truthy_bool h⟩) (PySem.F.args_tuple_eq_2 _ _)) (by lia))
theorem XC{ks:List K}{v:Value}{Q:Bool->Shared->Prop}(n:Nat)(hn:d+1<=n)(hk:uR F s.heap ks v)(h:Q true s):wpAny (model prog w) A (eqIsQuiet n v) Q E s:=by
 obtain⟨a,o,its,m,rfl,ho,hc,hd,hi⟩:=hk;have ty:s.TypeIs (.ref a) "tuple" := ⟨o,ho,hc⟩;obtain⟨n,rfl⟩:∃ k,n=k+1:=⟨n-1,by lia⟩;unfold eqIsQuiet;refine wpAny_bind (wpAny_specialOf ty PySem.F.slot_tuple_eq.lookup ?_);show wpAny _ _ (isInstance (Value.ref a) (.type "tuple") >>= _) _ _ s;refine wpAny_bind (wpAny_isInstance ty isSubtype_tuple_tuple ?_);simp only[Bool.not_true,Bool.false_eq_true,if_false];refine wpAny_bind (wpAny_seqItems ho hd (wpAny_bind ?_));show wpAny _ _ (forIn its _ _) _ _ s;rw[<-Array.forIn_toList];refine wpAny_forIn_list _ (fun rest r s'=>r.1=none/\s'=s/\∃ i left,Gb F s.heap i left rest) _ ?_ ?_ _ _ ⟨rfl,rfl,0,ks,hi⟩
 ·rintro v rest r s' ⟨hr,rfl,i,left,hl⟩
  cases hl with
  | @cons _ k _ ks' _ h1 hl'=>
   refine wpAny_bind (F.still n (by lia) h1 ?_);simp only[Bool.not_true,Bool.false_eq_true,if_false];exact wpAny_pure ⟨rfl,rfl,i+1,ks',hl'⟩
 ·rintro⟨r1,r2⟩ s' ⟨hr,rfl,_⟩;simp only at hr;subst hr;exact wpAny_pure h
theorem uR.one{h:Heap}{v:Value}{x y:List K}(hx:uR F h x v)(hy:uR F h y v):x=y:=by
 obtain⟨a,o,its,n,rfl,ho,_,hd,hi⟩:=hx;obtain⟨a',o',its',n',e,ho',_,hd',hi'⟩:=hy
 cases e
 rw[ho]at ho'
 cases ho'
 rw[hd]at hd'
 cases hd'
 exact hi.one hi'
noncomputable def iu.tup(F:iu prog w K d):iu prog w (List K) (d+1) where
 has:=fun _ h ks v=>uR F h ks v
 hsh:=Yg F
 J0:=Yu F
 one:=fun hx hy=>hx.one hy
 stay:=fun hx k=>by
  obtain⟨a,o,its,n,e,ho,hc,hd,hi⟩:=hx;exact⟨a,o,its,n,e,k _ _ _ _ ho hd,hc,hd,hi.stay k⟩
 hashed:=fun hu hx q=>Vd hu hx q
 same:=fun hu hx hy q=>qAM hu hx hy q
 still:=fun n hn hx q=>XC n hn hx q
noncomputable def iu.heap(F:iu prog w K d)(le:d<=8):HeapKind prog w K where
 is:=fun h k a=>F.has 0 h k (.ref a)
 hash:=F.hsh
 draws:=F.J0
 room:=fun A=>A.units+d<cLine
 inj:=fun hx hy=>F.one hx hy
 keeps:=fun hx ho hd hs=>F.stay hx fun a o its n ha hs'=>by
  refine (hs.2 a ?_).trans ha;rintro rfl;rw[ha]at ho
  cases ho
  rw[hs']at hd;exact nomatch hd
 pyHash:=fun hu hx q=>F.hashed hu hx q
 eqBool:=fun hu hx hy q=>F.same hu hx hy q
 quiet:=fun hx q=>F.still 8 le hx q
end
end PySem
namespace L2
open PySem PySem.Spec PyProof.Rows
structure bN(K:Type) [DecidableEq K] (d:Nat) where
 inn:Nat->Hp->K->V->Prop
 mono:∀ {i:Nat} {H H':Hp} {k:K} {v:V},inn i H k v->(∀ b xs,H b=some (.tup xs)->H' b=some (.tup xs))->inn i H' k v
 fam:∀(P:Program)(w:World),iu P w K d
 ok:∀ {P:Program} {w:World} {H:Hp} {h:Heap} {i:Nat} {k:K} {v:V} {u:Value},j6 P w H h->inn i H k v->RelV v u->(fam P w).has i h k u
noncomputable def bN.leaf:bN Key 0 where
 inn:=fun _ _ k v=>v=kV k
 mono:=fun x _=>x
 fam:=fun P w=>iu.leaf (bW P w)
 ok:=fun _ x r=>by
  subst x;exact FQ r
section
variable{K L:Type} [DecidableEq K] [DecidableEq L] {d:Nat}
noncomputable def bN.up(F:bN K d)(e:Nat)(le:d<=e):bN K e where
 inn:=F.inn
 mono:=F.mono
 fam:=fun P w=>(F.fam P w).up e le
 ok:=fun a b c=>F.ok a b c
noncomputable def bN.two(F:bN K d)(G:bN L d):bN (K ⊕ L) d where
 inn:=fun i H k v=>match k with
  | .inl x=>i=0/\F.inn 0 H x v
  | .inr y=>i≠0/\G.inn i H y v
 mono:=by
  rintro i H H' (k | k) v ⟨e,x⟩ h
  ·exact⟨e,F.mono x h⟩
  ·exact⟨e,G.mono x h⟩
 fam:=fun P w=>(F.fam P w).two (G.fam P w)
 ok:=by
  rintro P w H h i (k | k) v u hk ⟨e,x⟩ r
  ·exact⟨e,F.ok hk x r⟩
  ·exact⟨e,G.ok hk x r⟩
inductive uT(F:bN K d)(H:Hp):Nat->List K->List V->Prop
 | nil {i:Nat}:uT F H i [] []
 | cons {i:Nat} {k:K} {v:V} {ks:List K} {vs:List V}:F.inn i H k v->uT F H (i+1) ks vs->uT F H i (k::ks) (v::vs)
theorem uT.mono{F:bN K d}{H H':Hp}{i:Nat}{ks:List K}{vs:List V}(x:uT F H i ks vs)(h:∀ b xs,H b=some (.tup xs)->H' b=some (.tup xs)):uT F H' i ks vs:=by
 induction x with
 | nil=>exact .nil
 | cons a _ ih=>exact .cons (F.mono a h) ih
theorem uT.ok{F:bN K d}{P:Program}{w:World}{H:Hp}{h:Heap}(hk:j6 P w H h){i:Nat}{ks:List K}{vs:List V}(x:uT F H i ks vs):∀ {us:List Value},Vals vs us->PySem.Gb (F.fam P w) h i ks us:=by
 induction x with
 | nil=>
  intro us r
  cases r
  exact .nil
 | cons a _ ih=>
  intro us r
  cases r with
  | cons r1 r2=>exact .cons (F.ok hk a r1) (ih r2)
noncomputable def bN.tup(F:bN K d):bN (List K) (d+1) where
 inn:=fun _ H ks v => ∃(a:Addr)(vs:List V),v = .ref a/\H a=some (.tup vs)/\uT F H 0 ks vs
 mono:=by
  rintro i H H' k v ⟨a,vs,e,h1,h2⟩ h;exact⟨a,vs,e,h _ _ h1,h2.mono h⟩
 fam:=fun P w=>(F.fam P w).tup
 ok:=by
  rintro P w H h i k v u hk ⟨a,vs,rfl,h1,h2⟩ r
  cases (show u=Value.ref a from r)
  obtain⟨_,its,rv,o,g1,g2,n,g3⟩:=(show bL P w H h a (.tup vs) from hk a _ h1);exact⟨a,o,its.toArray,n,rfl,g1,g2,g3,by simpa using h2.ok hk rv⟩
noncomputable def O8(P:Program)(w:World)(F:bN K d)(le:d<=8)(a:Addr)(xs:List (K×Addr×V))(h:Heap):Prop:=
 xs.length<=sizeLine/\(a==sysModules)=false/\∃ ys:List (K×Addr×Value),Paired (fun (p:K×Addr×V) (q:K×Addr×Value)=>p.1=q.1/\p.2.1=q.2.1/\RelV p.2.2 q.2.2) xs ys ∧
  ∃ o es ep,h.get? a=some o/\o.ExactDict/\o.data = .dict es ep/\es.toList=ys.map (entryOfKey ((F.fam P w).heap le))/\(ys.map (·.1)).Nodup
noncomputable def DN(P:Program)(w:World)(F:bN K d)(le:d<=8)(H:Hp)(a:Addr)(kvs:List (K×V)):Prop:=
 ∃ xs:List (K×Addr×V),kvs=xs.map (fun x=>(x.1,x.2.2))/\H a=some (.ext (O8 P w F le a xs))/\∀ x∈xs,F.inn 0 H x.1 (.ref x.2.1)
theorem DN.mono{P:Program}{w:World}{F:bN K d}{le:d<=8}{H H':Hp}{a:Addr}{kvs:List (K×V)}(x:DN P w F le H a kvs)(h:∀ b xs,H b=some (.tup xs)->H' b=some (.tup xs))(e:H' a=H a):DN P w F le H' a kvs:=by
 obtain⟨xs,h1,h2,h3⟩:=x;exact⟨xs,h1,by rw[e];exact h2,fun y hy=>F.mono (h3 y hy) h⟩
noncomputable abbrev Vv(p:K×Addr×V)(q:K×Addr×Value):Prop:=p.1=q.1/\p.2.1=q.2.1/\RelV p.2.2 q.2.2
theorem jn{xs:List (K×Addr×V)}{ys:List (K×Addr×Value)}(r:Paired Vv xs ys)(k:K):(cG (xs.map fun x=>(x.1,x.2.2)) k=none/\atKey ys k=none) ∨ ∃ v p,cG (xs.map fun x=>(x.1,x.2.2)) k=some v/\atKey ys k=some p/\RelV v p.2:=by
 induction r with
 | nil=>exact .inl ⟨rfl,rfl⟩
 | @cons p q ps qs h _ ih=>
  obtain⟨e1,e2,e3⟩:=h
  by_cases e:p.1=k
  ·refine .inr ⟨p.2.2,q.2,bu (p:=(p.1,p.2.2)) e,?_,e3⟩;unfold atKey;rw[List.find?_cons,show decide (q.1=k)=true from decide_eq_true (by rw[<-e1];exact e)];rfl
  ·have e':atKey (q::qs) k=atKey qs k:=by
    unfold atKey;rw[List.find?_cons,show decide (q.1=k)=false from decide_eq_false (by rw[<-e1];exact e)]
   rw[List.map_cons,bw (p:=(p.1,p.2.2)) e,e'];exact ih
theorem DN.at{P:Program}{w:World}{F:bN K d}{le:d<=8}{H:Hp}{h:Heap}{a:Addr}{kvs:List (K×V)}(x:DN P w F le H a kvs)(hk:j6 P w H h) :
  ∃(xs:List (K×Addr×V))(ys:List (K×Addr×Value)),kvs=xs.map (fun x=>(x.1,x.2.2))/\H a=some (.ext (O8 P w F le a xs))/\(∀ x∈xs,F.inn 0 H x.1 (.ref x.2.1))/\xs.length<=sizeLine/\(a==sysModules)=false/\Paired Vv xs ys/\h.DictOfH ((F.fam P w).heap le) a ys:=by
 obtain⟨xs,h1,h2,h3⟩:=x;obtain⟨⟨z,y,ys,r,o,es,ep,g1,g2,g3,g4,g5⟩,_⟩:=(show bL P w H h a (.ext (O8 P w F le a xs)) from hk a _ h2);refine⟨xs,ys,h1,h2,h3,z,y,r,o,es,ep,g1,g2,g3,g4,?_,g5⟩
 have all:∀ {l:List (K×Addr×V)} {m:List (K×Addr×Value)},Paired Vv l m->(∀ x∈l,F.inn 0 H x.1 (.ref x.2.1))->∀ x∈m,((F.fam P w).heap le).is h x.1 x.2.1:=by
  intro l m q
  induction q with
  | nil=>intro _ x hx;exact nomatch hx
  | @cons p q ps qs hq t ih=>
   intro hl x hx;rcases bI.mp hx with e | hx
   ·subst e;have:=F.ok hk (hl p Cu) (show RelV (.ref p.2.1) (Value.ref p.2.1) from rfl);rw[hq.1,hq.2.1]at this;exact this
   ·exact ih (fun y hy=>hl y (GQ _ hy)) x hx
 exact all r h3
theorem Ro{P:Program}{w:World}{F:bN K d}{le:d<=8}{a:Addr}{xs:List (K×Addr×V)}:∀ h1 h2:Heap,O8 P w F le a xs h1->(∀ o,h1.get? a=some o->h2.get? a=some o)->O8 P w F le a xs h2:=by
 rintro h1 h2 ⟨z,y,ys,r,o,es,ep,g1,g⟩ k;exact⟨z,y,ys,r,o,es,ep,k _ g1,g⟩
theorem J7{P:Program}{w:World}{F:bN K d}{le:d<=8}{H:Hp}{h:Heap}{a:Addr}{xs:List (K×Addr×V)}{ys:List (K×Addr×Value)}(z:xs.length<=sizeLine)(y:(a==sysModules)=false)(r:Paired Vv xs ys)(dd:h.DictOfH ((F.fam P w).heap le) a ys):bL P w H h a (.ext (O8 P w F le a xs)):=by
 obtain⟨o,es,ep,g1,g2,g3,g4,_,g5⟩:=dd;exact⟨⟨z,y,ys,r,o,es,ep,g1,g2,g3,g4,g5⟩,⟨o,g1⟩,Ro⟩
end
section
variable{X:Cx}{K:Type} [DecidableEq K] {d:Nat} {F:bN K d} {le:d<=8}
noncomputable def qA7(P:Program)(w:World)(F:bN K d)(le:d<=8):TE:=fun _ H Q => ∀ p H',H p=none->H'=upd H p (.ext (O8 P w F le p []))->DN P w F le H' p []->Q (.ref p) H'
theorem KC{pos:Pos}(F:bN K d)(le:d<=8):PE X (.Dict [] [] pos) (qA7 X.prog X.w F le):=fun pins s σ H Q I h=>
 wpAny_Dict_empty ⟨.ref s.heap.objs.size,_,I.laid (a:=s.heap.objs.size) (o:=.ext (O8 X.prog X.w F le s.heap.objs.size [])) (t':=s.toks) (fun _ _ q=>j5 _ q) (bM _) (J7 (ys:=[]) (Nat.zero_le _) (beq_eq_false_iff_ne.mpr (Ne.symm (kI I.big))) .nil (Heap.DictOfH.new s.heap)),rfl,h _ _ (I.hok.fresh (bM _)) rfl ⟨[],rfl,zC,fun x hx=>by cases hx⟩⟩
noncomputable def qA8(P:Program)(w:World)(F:bN K d)(le:d<=8)(td ty:TE):TE:=fun σ H Q=>td σ H fun x H1=>ty σ H1 fun y H2 => ∃(a b:Addr)(kvs:List (K×V))(k:K)(v:V),x = .ref a/\y = .ref b/\DN P w F le H2 a kvs/\F.inn 0 H2 k (.ref b)/\cG kvs k=some v/\Q v H2
theorem Ul{o i:Expr}{pos:Pos}{td ty:TE}(hu:X.A.units+64<cLine)(F:bN K d)(le:d<=8)(ho:PE X o td)(hi:PE X i ty)(hs:Z7 i):PE X (.Subscript o i pos) (qA8 X.prog X.w F le td ty):=by
 intro pins s σ H Q I h;refine Je PySem.F.slot_dict_getitem.lookup hs (au (ho pins s σ H _ I h) fun u s1 ⟨x,H1,I1,rx,q1⟩=>au (hi pins s1 σ H1 _ I1 q1) fun iv s2 hz_=>?_);refine aJ fun G_ g_=>?_;obtain⟨y,H2,I2,ry,a,b,kvs,k,v,ex,ey,D,hk,l,q2⟩:=hz_;apply g_;clear g_ G_;subst ex;subst ey;obtain rfl:u=Value.ref a:=rx;obtain rfl:iv=Value.ref b:=ry;obtain⟨xs,ys,e1,e2,e3,z,hd,r,dd⟩:=D.at I2.hok;rcases jn r k with ⟨h1,_⟩ | ⟨v',p,h1,h2,h3⟩
 ·rw[e1,h1]at l
  cases l
 ·rw[e1,h1]at l
  cases l
  exact⟨dd.typeIs,wpAny_getItem_heap (show X.A.units+1+d<cLine by lia) (F.ok I2.hok hk rfl) dd h2 ⟨_,H2,I2.tok _,h3,q2⟩⟩
end
section
variable{prog:Program}{w:World}{K:Type} [DecidableEq K] {knd:HeapKind prog w K} {A:Around} {E:Value->Shared->Prop} {s:Shared}
theorem Tw{d a:Addr}{xs:List (K×Addr×Value)}{k:K}{v:Value}{Q:Value->Shared->Prop}(hu:knd.room A)(hd:(d==sysModules)=false)(hkey:knd.is s.heap k a)(hm:s.heap.DictOfH knd d xs)
  (h1:∀ p,atKey xs k=some p->Q p.2 { s with toks:=s.toks+knd.draws k })
  (h2:atKey xs k=none->∀ h',h'.DictOfH knd d (xs++[(k,a,v)])->Heap.SameBut d s.heap h'->Q v { s with heap:=h',toks:=s.toks+knd.draws k }) (hsz:xs.length<=sizeLine) :
  wpAny (model prog w) A (dictSetDefault d (.ref a) v) Q E s:=by
 obtain⟨o,es,ep,ho,hc,hdat,he,his,hn⟩:=hm;unfold dictSetDefault
 (try with_reducible refine wpAny_holding ?_)
 refine wpAny_bind (knd.pyHash hu hkey (wpAny_bind (wpAny_dictFind_heap (s:={ s with toks:=s.toks+knd.draws k }) hu hkey ho hdat he his hn ?_ ?_)))
 ·intro hno;have hnot:k∉xs.map (·.1):=not_mem_keys_of_get hno
  refine wpAny_bind (wpAny_rule (wpAny_bind (wpAny_updateDictKeys (hz:=by have e:=size_of_entries he;lia) (s:={ s with toks:=s.toks+knd.draws k }) ho hdat (wpAny_pure (h2 (atKey_none_of_get hno) _ ⟨_,_,ep+1,Heap.get?_update_self _ ho (Obj.isFreed_of_dict (Obj.data_mapDictKeys hdat _)),
   hc.mapDictKeys _,Obj.data_mapDictKeys hdat _,?_,?_,?_⟩ (Heap.SameBut.update ..))))))
  ·simp [he,entryOfKey]
  ·intro x hx;rcases cX.mp hx with hx | hx
   ·exact knd.keeps (his x hx) ho hdat (Heap.SameBut.update ..)
   ·rw[cB.mp hx];exact knd.keeps hkey ho hdat (Heap.SameBut.update ..)
  ·rw[jd,List.nodup_append];refine⟨hn,by simp,fun x hx y hy=>?_⟩;rw[List.map_cons,List.map_nil,cB]at hy;subst hy;exact fun e=>hnot (e▸hx)
 ·intro j p hj;refine wpAny_bind (wpAny_dictEntries (s:={ s with toks:=s.toks+knd.draws k }) ho hdat ?_);rw[entry_at he j,hj];exact wpAny_bind (wpAny_rule (wpAny_pure (h1 p (atKey_of_get hn hj))))
theorem Fp{d a:Addr}{xs:List (K×Addr×Value)}{k:K}{v:Value}{Q:Value->Shared->Prop}(hu:knd.room A.in1)(hd:(d==sysModules)=false)(hkey:knd.is s.heap k a)(hm:s.heap.DictOfH knd d xs)
  (h1:∀ p,atKey xs k=some p->Q p.2 { s with toks:=s.toks+knd.draws k })
  (h2:atKey xs k=none->∀ h',h'.DictOfH knd d (xs++[(k,a,v)])->Heap.SameBut d s.heap h'->Q v { s with heap:=h',toks:=s.toks+knd.draws k }) (hsz:xs.length<=sizeLine) :
  wpAny (model prog w) A (call (.builtin "dict.setdefault") [.ref d,.ref a,v]) Q E s:=by
 refine wpAny_call_entry PySem.F.slot_dict_setdefault hm.typeIs PySem.F.entry_dict_setdefault ?_ (PySem.F.args_dict_setdefault_3 _ _ _);unfold Builtin.«dict.setdefault» Builtin.Dict.keyAndDefault;refine wpAny_bind (wpAny_bind (wpAny_notOrdered_dict hm.typeIs ?_));show wpAny _ _ (pure (d,Value.ref a,some v)) _ _ s;refine wpAny_pure ?_;show wpAny _ _ (if (d==sysModules)=true then _ else (dictSetDefault d (.ref a) v >>= _)) _ _ s;rw[if_neg (by rw[hd];simp)];exact wpAny_bind (Tw hu hd hkey hm (fun p hp=>wpAny_pure ⟨_,rfl,h1 p hp⟩) (fun hn h' hm' hs=>wpAny_pure ⟨_,rfl,h2 hn h' hm' hs⟩) hsz)
end
section
variable{X:Cx}{K:Type} [DecidableEq K] {d:Nat}
noncomputable def qA6(P:Program)(w:World)(F:bN K d)(le:d<=8)(td ty tz:TE):TE:=fun σ H Q=>td σ H fun x H1 => ∃(a:Addr)(Qx:List (K×V)),x = .ref a/\DN P w F le H1 a Qx/\ty σ H1 fun y H2=>tz σ H2 fun v H3 => ∃(b:Addr)(kvs:List (K×V))(k:K),y = .ref b/\DN P w F le H3 a kvs/\F.inn 0 H3 k (.ref b)/\kvs.length<sizeLine ∧
 (∀ v',cG kvs k=some v'->Q v' H3)/\(cG kvs k=none->∀ o,DN P w F le (upd H3 a o) a (kvs++[(k,v)])->Q v (upd H3 a o))
theorem Uk{o e f:Expr}{apos cpos:Pos}{td ty tz:TE}(hu:X.A.units+64<cLine)(F:bN K d)(le:d<=8)(ho:PE X o td)(he:PE X e ty)(hf:PE X f tz)(m:M2 X o "setdefault" apos e f cpos):PE X (.Call (.Attribute o "setdefault" apos) [e,f] [] cpos) (qA6 X.prog X.w F le td ty tz):=by
 intro pins s σ H Q I h;refine wpAny_Call_method m.base m.few m.line PySem.F.plainAttrs_dict PySem.F.slot_dict_setdefault PySem.F.type_dict_setdefault (au (ho pins s σ H _ I h) fun u s1 hz_=>?_);refine aJ fun G_ g_=>?_;obtain⟨x,H1,I1,rx,a,Qx,ex,D0,q1⟩:=hz_;apply g_;clear g_ G_;subst ex;obtain rfl:u=Value.ref a:=rx;obtain⟨_,ys0,_,_,_,_,_,_,dd0⟩:=D0.at I1.hok;refine⟨dd0.typeIs,fun b q=>?_,?_⟩
 ·cases q;obtain⟨ob,_,_,g1,g2,_⟩:=dd0;exact⟨ob,g1,g2.2.1⟩
 rw[m.trees]
 refine Calls.callWith_builtin rfl (Calls.evalArgs_plain (Calls.spliced_cons (au (he pins s1 σ H1 _ I1 q1) fun iv s2 ⟨y,H2,I2,ry,q2⟩=>
  Calls.spliced_cons (au (hf pins s2 σ H2 _ I2 q2) fun fv s3 ⟨v,H3,I3,rz,b,kvs,k,ey,D,hk,hl,qa,qb⟩=>Calls.spliced_nil ?_))))
 subst ey;obtain rfl:iv=Value.ref b:=ry;obtain⟨xs,ys,e1,e2,e3,z,hd,r,dd⟩:=D.at I3.hok;have lr:=r.length
 have lk:kvs.length=xs.length:=by rw[e1,bZ]
 refine Fp (show X.A.units+1+d<cLine by lia) hd (F.ok I3.hok hk rfl) dd (fun p hp=>?_) (fun hn h' Rx hs=>?_) (by lia)
 ·rcases jn r k with ⟨_,h2⟩ | ⟨v',p',h1,h2,h3⟩
  ·rw[hp]at h2
   cases h2
  ·rw[hp]at h2
   cases h2
   exact⟨v',H3,I3.tok _,h3,qa v' (by rw[e1];exact h1)⟩
 ·have hv:cG kvs k=none:=by
   rcases jn r k with ⟨h1,_⟩ | ⟨v',p',h1,h2,h3⟩
   ·rw[e1];exact h1
   ·rw[hn]at h2
    cases h2
  have hq:∃ q,h'.get? a=some q:=by
   obtain⟨q,_,_,g,_⟩:=Rx;exact⟨q,g⟩
  have I4:Inv X pins σ (upd H3 a (.ext (O8 X.prog X.w F le a (xs++[(k,b,v)])))) { s3 with heap:=h',toks:=s3.toks+((F.fam X.prog X.w).heap le).draws k }:=
   uv I3 (by rw[e2];exact True.intro) hs hq (J7 (by rw[dW,gj];lia) hd (r.snoc ⟨rfl,rfl,rz⟩) Rx)
  have kt:∀ c zs,H3 c=some (.tup zs)->upd H3 a (.ext (O8 X.prog X.w F le a (xs++[(k,b,v)]))) c=some (.tup zs):=fun c zs g=>by
   rw[zQ (bz g e2 (fun z=>by cases z))];exact g
  refine⟨v,_,I4,rz,qb hv _ ⟨xs++[(k,b,v)],by rw[jd,e1];rfl,zC,fun x hx=>?_⟩⟩;rcases cX.mp hx with hx | hx
  ·exact F.mono (e3 x hx) kt
  ·rw[cB.mp hx];exact F.mono hk kt
end
end L2
namespace PySem
noncomputable def iu.sw{prog:Program}{w:World}{K L:Type} [DecidableEq K] [DecidableEq L] {d:Nat} (p:Nat->Bool) (F:iu prog w K d) (G:iu prog w L d):iu prog w (K ⊕ L) d where
 has:=fun i h k v=>match k with
  | .inl x=>p i=true/\F.has i h x v
  | .inr y=>p i=false/\G.has i h y v
 hsh:=fun k=>match k with
  | .inl x=>F.hsh x
  | .inr y=>G.hsh y
 J0:=fun k=>match k with
  | .inl x=>F.J0 x
  | .inr y=>G.J0 y
 one:=by
  rintro i h v (x | x) (y | y) ⟨e1,hx⟩ ⟨e2,hy⟩
  ·rw[F.one hx hy]
  ·rw[e1]at e2;cases e2
  ·rw[e1]at e2;cases e2
  ·rw[G.one hx hy]
 stay:=by
  rintro i h h' v (x | x) ⟨e1,hx⟩ k
  ·exact⟨e1,F.stay hx k⟩
  ·exact⟨e1,G.stay hx k⟩
 hashed:=by
  rintro i A E s (x | x) v Q hu ⟨e1,hx⟩ q
  ·exact F.hashed hu hx q
  ·exact G.hashed hu hx q
 same:=by
  rintro i A E s (x | x) (y | y) u v Q hu ⟨e1,hx⟩ ⟨e2,hy⟩ q
  ·refine F.same hu hx hy ?_;rw[show decide (x=y)=decide ((Sum.inl x:K ⊕ L)=Sum.inl y) from decide_eq_decide.mpr ⟨fun z=>by rw[z],fun z=>Sum.inl.inj z⟩];exact q
  ·rw[e1]at e2;cases e2
  ·rw[e1]at e2;cases e2
  ·refine G.same hu hx hy ?_;rw[show decide (x=y)=decide ((Sum.inr x:K ⊕ L)=Sum.inr y) from decide_eq_decide.mpr ⟨fun z=>by rw[z],fun z=>Sum.inr.inj z⟩];exact q
 still:=by
  rintro i A E s (x | x) v Q n hn ⟨e1,hx⟩ q
  ·exact F.still n hn hx q
  ·exact G.still n hn hx q
end PySem
namespace L2
open PySem PySem.Spec PyProof.Rows
section
variable{K L:Type} [DecidableEq K] [DecidableEq L] {d:Nat}
noncomputable def bN.sw(p:Nat->Bool)(F:bN K d)(G:bN L d):bN (K ⊕ L) d where
 inn:=fun i H k v=>match k with
  | .inl x=>p i=true/\F.inn i H x v
  | .inr y=>p i=false/\G.inn i H y v
 mono:=by
  rintro i H H' (k | k) v ⟨e,x⟩ h
  ·exact⟨e,F.mono x h⟩
  ·exact⟨e,G.mono x h⟩
 fam:=fun P w=>(F.fam P w).sw p (G.fam P w)
 ok:=by
  rintro P w H h i (k | k) v u hk ⟨e,x⟩ r
  ·exact⟨e,F.ok hk x r⟩
  ·exact⟨e,G.ok hk x r⟩
end
section
variable{X:Cx}{K:Type} [DecidableEq K] {d:Nat}
noncomputable def qE9(P:Program)(w:World)(F:bN K d)(le:d<=8)(ty td:TE):TE:=fun σ H Q=>ty σ H fun y H1=>td σ H1 fun x H2 => ∃(a b:Addr)(kvs:List (K×V))(k:K),x = .ref a/\y = .ref b/\DN P w F le H2 a kvs/\F.inn 0 H2 k (.ref b)/\Q (.bl (cG kvs k).isSome) H2
theorem Xi{i o:Expr}{ty td:TE}(hu:X.A.units+64<cLine)(F:bN K d)(le:d<=8)(hi:PE X i ty)(ho:PE X o td):PC X .In i o (qE9 X.prog X.w F le ty td):=by
 intro pins s σ H Q I h;refine au (hi pins s σ H _ I h) fun iv s1 ⟨y,H1,I1,ry,q1⟩=>au (ho pins s1 σ H1 _ I1 q1) fun u s2 ⟨x,H2,I2,rx,a,b,kvs,k,ex,ey,D,hk,q2⟩=>?_;subst ex ey;obtain rfl:u=Value.ref a:=rx;obtain rfl:iv=Value.ref b:=ry;obtain⟨xs,ys,e1,e2,e3,z,hd,r,dd⟩:=D.at I2.hok;refine wpAny_in_heap (show X.A.units+1+d<cLine by lia) (F.ok I2.hok hk rfl) hd dd ⟨.bl (cG kvs k).isSome,H2,I2.tok _,?_,q2⟩;show Value.bool _=Value.bool _;rcases jn r k with ⟨h1,h2⟩ | ⟨v',p,h1,h2,h3⟩
 ·rw[h2,e1,h1];rfl
 ·rw[h2,e1,h1];rfl
noncomputable def qAP(P:Program)(w:World)(F:bN K d)(le:d<=8)(td ty tv:TE):TS:=fun D σ H=>tv σ H fun v H1=>td σ H1 fun x H2=>ty σ H2 fun y H3 => ∃(a b:Addr)(kvs:List (K×V))(k:K),x = .ref a/\y = .ref b/\DN P w F le H3 a kvs/\F.inn 0 H3 k (.ref b) ∧
 kvs.length<sizeLine/\cG kvs k=none/\∀ o,(∃ φ,o=HO.ext φ)->DN P w F le (upd H3 a o) a (kvs++[(k,v)])->D.nx σ (upd H3 a o)
theorem storedH_new{xs:List (K×Addr×Value)}{k:K}{a:Addr}{v:Value}(h:atKey xs k=none):storedH xs k a v=xs++[(k,a,v)]:=by
 unfold storedH;rw[h];exact if_neg (by decide)
theorem Uc{o i value:Expr}{td ty tv:TE}{pos pos':Pos}(hu:X.A.units+64<cLine)(F:bN K d)(le:d<=8)(ho:PE X o td)(hi:PE X i ty)(hv:PE X value tv)(hs:swapsWith value (some (.Subscript o i pos')) pos.line X.env=pure false) :
  PS X (.Assign [.Subscript o i pos'] value pos) (qAP X.prog X.w F le td ty tv):=by
 intro pins s σ H D I h;refine wpAny_Assign_Subscript (au (hv pins s σ H _ I h) fun r s1 ⟨v,H1,I1,rv,q1⟩=>au (ho pins s1 σ H1 _ I1 q1) fun u s2 ⟨x,H2,I2,rx,q2⟩=>au (hi pins s2 σ H2 _ I2 q2) fun iv s3 hz_=>?_) hs;refine aJ fun G_ g_=>?_;obtain⟨y,H3,I3,ry,a,b,kvs,k,ex,ey,dn,hk,hl,hn,q3⟩:=hz_;apply g_;clear g_ G_;subst ex ey;obtain rfl:u=Value.ref a:=rx;obtain rfl:iv=Value.ref b:=ry;obtain⟨xs,ys,e1,e2,e3,z,hd,rr,dd⟩:=dn.at I3.hok;have lr:=rr.length
 have lk:kvs.length=xs.length:=by rw[e1,bZ]
 have hy:atKey ys k=none:=by
  rcases jn rr k with ⟨_,h2⟩ | ⟨v',p',h1,h2,h3⟩
  ·exact h2
  ·rw[<-e1,hn]at h1
   cases h1
 refine wpAny_setItem_heap (hsz:=by lia) (show X.A.units+1+d<cLine by lia) (F.ok I3.hok hk rfl) dd fun h' Rx hs'=>?_;rw[storedH_new hy]at Rx
 have hq:∃ q,h'.get? a=some q:=by
  obtain⟨q,_,_,g,_⟩:=Rx;exact⟨q,g⟩
 have I4:Inv X pins σ (upd H3 a (.ext (O8 X.prog X.w F le a (xs++[(k,b,v)])))) { s3 with heap:=h',toks:=s3.toks+((F.fam X.prog X.w).heap le).draws k }:=
  uv I3 (by rw[e2];exact True.intro) hs' hq (J7 (by rw[dW,gj];lia) hd (rr.snoc ⟨rfl,rfl,rv⟩) Rx)
 have kt:∀ c zs,H3 c=some (.tup zs)->upd H3 a (.ext (O8 X.prog X.w F le a (xs++[(k,b,v)]))) c=some (.tup zs):=fun c zs g=>by
  rw[zQ (bz g e2 (fun z=>by cases z))];exact g
 refine⟨σ,_,I4,q3 _ ⟨_,rfl⟩ ⟨xs++[(k,b,v)],by rw[jd,e1];rfl,zC,fun x hx=>?_⟩⟩;rcases cX.mp hx with hx | hx
 ·exact F.mono (e3 x hx) kt
 ·rw[cB.mp hx];exact F.mono hk kt
noncomputable def Am(P:Program)(w:World)(F:bN K d)(le:d<=8)(td ty:TE):TE:=fun σ H Q=>td σ H fun x H1 => ∃(a:Addr)(Qx:List (K×V)),x = .ref a/\DN P w F le H1 a Qx/\ty σ H1 fun y H2 => ∃(b:Addr)(kvs:List (K×V))(k:K),y = .ref b/\DN P w F le H2 a kvs/\F.inn 0 H2 k (.ref b)/\Q ((cG kvs k).getD .non) H2
theorem Dw{o e:Expr}{apos cpos:Pos}{td ty:TE}(hu:X.A.units+64<cLine)(F:bN K d)(le:d<=8)(ho:PE X o td)(he:PE X e ty)(m:M1 X o "get" apos e cpos):PE X (.Call (.Attribute o "get" apos) [e] [] cpos) (Am X.prog X.w F le td ty):=by
 intro pins s σ H Q I h;refine wpAny_Call_method m.base m.few m.line PySem.F.plainAttrs_dict PySem.F.slot_dict_get PySem.F.type_dict_get (au (ho pins s σ H _ I h) fun u s1 hz_=>?_);refine aJ fun G_ g_=>?_;obtain⟨x,H1,I1,rx,a,Qx,ex,D0,q1⟩:=hz_;apply g_;clear g_ G_;subst ex;obtain rfl:u=Value.ref a:=rx;obtain⟨_,ys0,_,_,_,_,_,_,dd0⟩:=D0.at I1.hok;refine⟨dd0.typeIs,fun b q=>?_,?_⟩
 ·cases q;obtain⟨ob,_,_,g1,g2,_⟩:=dd0;exact⟨ob,g1,g2.2.1⟩
 rw[m.trees];refine Calls.callWith_builtin rfl (Calls.evalArgs_plain (Calls.spliced_cons (au (he pins s1 σ H1 _ I1 q1) fun iv s2 hz_=>Calls.spliced_nil ?_)));refine aJ fun G_ g_=>?_;obtain⟨y,H2,I2,ry,b,kvs,k,ey,D,hk,q2⟩:=hz_;apply g_;clear g_ G_;subst ey;obtain rfl:iv=Value.ref b:=ry;obtain⟨xs,ys,e1,e2,e3,z,hd,r,dd⟩:=D.at I2.hok;refine call_meetsIn PySem.F.slot_dict_get dd.typeIs PySem.F.entry_dict_get (PySem.F.args_dict_get_2 _ _) (meetsH_dict_get ((F.fam X.prog X.w).heap le) a b hd) ⟨show X.A.units+1+d<cLine by lia,k,ys,F.ok I2.hok hk rfl,dd,_,H2,I2.tok _,?_,q2⟩;rcases jn r k with ⟨h1,h2⟩ | ⟨v',p,h1,h2,h3⟩
 ·rw[h2,e1,h1];rfl
 ·rw[h2,e1,h1];exact h3
end
end L2
namespace L2
open PySem
section
variable{X:Cx}{K:Type} [DecidableEq K] {d:Nat}
theorem Xm(hu:X.A.units+64<cLine)(F:bN K d)(hd:d<=8):jZ X (compareOp .Eq) (fun x y H Q => ∃(a b:Addr)(k1 k2:List K),x = .ref a/\y = .ref b/\F.tup.inn 0 H k1 (.ref a)/\F.tup.inn 0 H k2 (.ref b)/\Q (.bl (decide (k1=k2))) H):=by
 intro pins s σ H x y v u Q I rx ry h;obtain⟨a,b,k1,k2,rfl,rfl,i1,i2,q⟩:=h
 cases rx
 cases ry
 have h1:uR (F.fam X.prog X.w) s.heap k1 (.ref a):=F.tup.ok I.hok i1 rfl;have h2:uR (F.fam X.prog X.w) s.heap k2 (.ref b):=F.tup.ok I.hok i2 rfl;obtain⟨a',oa,xs,na,ea,hoa,hca,hda,hia⟩:=id h1
 cases ea
 obtain⟨b',ob,ys,nb,eb,hob,hcb,hdb,hib⟩:=id h2
 cases eb
 have ta:s.TypeIs (.ref a) "tuple" := ⟨oa,hoa,hca⟩;have tb:s.TypeIs (.ref b) "tuple" := ⟨ob,hob,hcb⟩;exact wpAny_richCompare_same_room (op:=.Eq) ta tb PySem.F.slot_tuple_eq
  (wpAny_call_entry PySem.F.slot_tuple_eq ta PySem.F.entry_tuple_eq (Fd (by show X.A.units+1+d<cLine;lia) h1 h2 ⟨_,rfl,(fun e=>nomatch e),.bl (decide (k1=k2)),H,I,rfl,q⟩) (PySem.F.args_tuple_eq_2 _ _)) (by lia)
end
noncomputable def qGJ(M:Model)(Γ:Ctx)(p:Pos)(t:Sem Fin)(fs:List Frame)(s:Shared)(e:End)(s':Shared):Prop:=match fs with
 | F::fs => ∃ e1 s1,Runs M (Γ.over (F::fs)) p t [] s e1 s1/\(match e1 with
  | .ret r=>(match F with
   | .ret k _ _ _ c₁ p₁ _=>Runs M (Γ.goto c₁) p₁ (k r) fs s1 e s'
   | .gen g k _ c₁ p₁=>Runs M (Γ.goto c₁) p₁ (k (End.ret r).result) fs (s1.setGen g .finished) e s')
  | .susp v g₀ l₀ k₀ c₀ p₀ fs₀=>(match splitAtGen (F::fs) with
   | none=>e = .susp v g₀ l₀ k₀ c₀ p₀ (fs₀++F::fs)/\s'=s1
   | some (pre,(g,k,c₁,p₁),rest)=>Runs M (Γ.goto c₁) p₁ (k (.yielded v)) rest (s1.setGen g (End.susp v g₀ l₀ k₀ c₀ p₀ (fs₀++pre)).genState) e s'))
 | []=>match t with
  | .pure (.done f)=>e = .ret (.ok f)/\s'=s
  | .pure (.again c)=>Runs M (Γ.goto c) p (M.den c) [] s e s'
  | .raise x=>e = .ret (.error x)/\s'=s
  | .rule _ k=>Runs M Γ p (k ()) [] s e s'
  | .at p' k=>Runs M Γ p' (k ()) [] s e s'
  | .load a _ k => ∃ o,s.heap.get? a=some o/\Runs M Γ p (k o) [] s e s'
  | .update a _ f k=>Runs M Γ p (k ()) [] { s with heap:=s.heap.update a f } e s'
  | .loadIfAlive a k=>Runs M Γ p (k (s.heap.get? a)) [] s e s'
  | .point _ k=>Runs M Γ p (k ()) [] s e s'
  | .alloc o k=>Runs M Γ p (k s.heap.objs.size) [] { s with heap:=s.heap.push o } e s'
  | .fresh k=>Runs M Γ p (k s.toks) [] { s with toks:=s.toks+1 } e s'
  | .ask k=>Runs M Γ p (k { program:=M.prog,params:=M.w.params }) [] s e s'
  | .choose src n k=>Runs M Γ p (k (M.w.draws src (s.drawn.get src)%n)) [] { s with drawn:=s.drawn.bump src } e s'
  | .os q _ k=>Runs M Γ p (k (Os.step s.os q).snd) [] { s with os:=(Os.step s.os q).fst } e s'
  | .handled own k=>Runs M Γ p (k (if own=true then Γ.own else Γ.handled)) [] s e s'
  | .genState g k => ∃ st,s.gens[g]? = some st/\Runs M Γ p (k st.seen) [] s e s'
  | .stack k=>Runs M Γ p (k ((Γ.code,p)::Γ.below)) [] s e s'
  | .thread k=>Runs M Γ p (k 0) [] s e s'
  | .newGen c k=>Runs M Γ p (k s.gens.size) [] { s with gens:=s.gens.push (.fresh c) } e s'
  | .call c h g l k => ∃ e1 s1,Runs M (Γ.enter c h p) p (M.den c) [] s e1 s1/\(match e1 with
   | .ret r=>Runs M Γ p (k r) [] s1 e s'
   | .susp v g₀ l₀ k₀ c₀ p₀ fs=>e = .susp v g₀ l₀ k₀ c₀ p₀ (fs++[Frame.ret k h g l Γ.code p []])/\s'=s1)
  | .yield v g l k=>e = .susp v g l k Γ.code p []/\s'=s
  | .resume g r _ k => ∃ st,s.gens[g]? = some st/\(match st with
   | .fresh c=>(match r with
    | .send v=>(v = .none/\∃ e1 s1,Runs M (Γ.wake c p) p (M.den c) [] (s.setGen g .running) e1 s1/\Runs M Γ p (k e1.result) [] (s1.setGen g e1.genState) e s')∨(v≠.none/\Runs M Γ p (k .justStarted) [] s e s')
    | .throw x=>Runs M Γ p (k (.raised x)) [] (s.setGen g .finished) e s')
   | .suspended k₀ _ c₀ p₀ fs _ => ∃ e1 s1,Runs M (Γ.wake c₀ p) p₀ (k₀ r) fs (s.setGen g .running) e1 s1/\Runs M Γ p (k e1.result) [] (s1.setGen g e1.genState) e s'
   | .running=>Runs M Γ p (k .running) [] s e s'
   | .finished=>Runs M Γ p (k .finished) [] s e s')
  | _=>True
theorem aN{M:Model}{Γ:Ctx}{p:Pos}{t:Sem Fin}{fs:List Frame}{s s':Shared}{e:End}(h:Runs M Γ p t fs s e s'):qGJ M Γ p t fs s e s':=by
 cases h with
 | done=>exact⟨rfl,rfl⟩
 | raise=>exact⟨rfl,rfl⟩
 | again _ h=>exact h
 | load h1 h2=>exact⟨_,h1,h2⟩
 | update _ h=>exact h
 | choose _ h=>exact h
 | genState h1 h2=>exact⟨_,h1,h2⟩
 | call h1 h2=>exact⟨_,_,h1,h2⟩
 | callSusp h1=>exact⟨_,_,h1,rfl,rfl⟩
 | yield=>exact⟨rfl,rfl⟩
 | resumeFresh h1 h2 _ h4=>exact⟨_,h1,.inl ⟨rfl,_,_,h2,h4⟩⟩
 | resumeSuspended h1 h2 _ h4=>exact⟨_,h1,_,_,h2,h4⟩
 | resumeJustStarted h1 h2 h3=>exact⟨_,h1,.inr ⟨h2,h3⟩⟩
 | resumeThrowFresh h1 h2=>exact⟨_,h1,h2⟩
 | resumeRunning h1 h2=>exact⟨_,h1,h2⟩
 | resumeFinished h1 h2=>exact⟨_,h1,h2⟩
 | segRet h1 h2=>exact⟨_,_,h1,h2⟩
 | segGen h1 h2=>exact⟨_,_,h1,h2⟩
 | segSuspOut h1 h2=>
  refine⟨_,_,h2,?_⟩;show (match splitAtGen _ with | none=>_ | some (pre,(g,k,c₁,p₁),rest)=>_);rw[h1];exact⟨rfl,rfl⟩
 | segSuspGen h1 h2 _ h4=>
  refine⟨_,_,h2,?_⟩;show (match splitAtGen _ with | none=>_ | some (pre,(g,k,c₁,p₁),rest)=>_);rw[h1];exact h4
 | rule h=>exact h
 | «at» h=>exact h
 | loadIfAlive h=>exact h
 | point h=>exact h
 | alloc h=>exact h
 | fresh h=>exact h
 | ask h=>exact h
 | os h=>exact h
 | handled h=>exact h
 | stack h=>exact h
 | thread h=>exact h
 | newGen h=>exact h
theorem vU{M:Model}{Γ:Ctx}{p:Pos}{t:Sem Fin}{fs:List Frame}{s s':Shared}{e:End}(h:Runs M Γ p t fs s e s') :
  ∀ {e2:End} {s2:Shared},Runs M Γ p t fs s e2 s2->e=e2/\s'=s2:=by
 induction h with
 | done=>intro e2 s2 h2;obtain⟨rfl,rfl⟩:=aN h2;exact⟨rfl,rfl⟩
 | raise=>intro e2 s2 h2;obtain⟨rfl,rfl⟩:=aN h2;exact⟨rfl,rfl⟩
 | again _ _ ih=>intro e2 s2 h2;exact ih (aN h2)
 | load h1 _ ih=>
  intro e2 s2 h2;obtain⟨o,ho,h⟩:=aN h2
  cases h1.symm.trans ho
  exact ih h
 | update _ _ ih=>intro e2 s2 h2;exact ih (aN h2)
 | choose _ _ ih=>intro e2 s2 h2;exact ih (aN h2)
 | genState h1 _ ih=>
  intro e2 s2 h2;obtain⟨o,ho,h⟩:=aN h2
  cases h1.symm.trans ho
  exact ih h
 | call _ _ ih1 ih2=>
  intro e2 s2 h2;obtain⟨e1,s1,h,h'⟩:=aN h2;obtain⟨rfl,rfl⟩:=ih1 h;exact ih2 h'
 | callSusp _ ih=>
  intro e2 s2 h2;obtain⟨e1,s1,h,h'⟩:=aN h2;obtain⟨rfl,rfl⟩:=ih h;exact⟨h'.1.symm,h'.2.symm⟩
 | yield=>intro e2 s2 h2;obtain⟨rfl,rfl⟩:=aN h2;exact⟨rfl,rfl⟩
 | resumeFresh h1 _ _ _ ih1 ih2=>
  intro e2 s2 h2;obtain⟨st,ho,h⟩:=aN h2
  cases h1.symm.trans ho
  rcases h with ⟨_,e1,s1,h,h'⟩ | ⟨z,_⟩
  ·obtain⟨rfl,rfl⟩:=ih1 h;exact ih2 h'
  ·exact absurd rfl z
 | resumeSuspended h1 _ _ _ ih1 ih2=>
  intro e2 s2 h2;obtain⟨st,ho,h⟩:=aN h2
  cases h1.symm.trans ho
  obtain⟨e1,s1,h,h'⟩:=h;obtain⟨rfl,rfl⟩:=ih1 h;exact ih2 h'
 | resumeJustStarted h1 nz _ ih=>
  intro e2 s2 h2;obtain⟨st,ho,h⟩:=aN h2
  cases h1.symm.trans ho
  rcases h with ⟨z,_⟩ | ⟨_,h⟩
  ·exact absurd z nz
  ·exact ih h
 | resumeThrowFresh h1 _ ih=>
  intro e2 s2 h2;obtain⟨st,ho,h⟩:=aN h2
  cases h1.symm.trans ho
  exact ih h
 | resumeRunning h1 _ ih=>
  intro e2 s2 h2;obtain⟨st,ho,h⟩:=aN h2
  cases h1.symm.trans ho
  exact ih h
 | resumeFinished h1 _ ih=>
  intro e2 s2 h2;obtain⟨st,ho,h⟩:=aN h2
  cases h1.symm.trans ho
  exact ih h
 | segRet _ _ ih1 ih2=>
  intro e2 s2 h2;obtain⟨e1,s1,h,h'⟩:=aN h2;obtain⟨rfl,rfl⟩:=ih1 h;exact ih2 h'
 | segGen _ _ ih1 ih2=>
  intro e2 s2 h2;obtain⟨e1,s1,h,h'⟩:=aN h2;obtain⟨rfl,rfl⟩:=ih1 h;exact ih2 h'
 | segSuspOut hs _ ih=>
  intro e2 s2 h2;obtain⟨e1,s1,h,h'⟩:=aN h2;obtain⟨rfl,rfl⟩:=ih h;simp only[hs]at h';exact⟨h'.1.symm,h'.2.symm⟩
 | segSuspGen hs _ _ _ ih1 ih2=>
  intro e2 s2 h2;obtain⟨e1,s1,h,h'⟩:=aN h2;obtain⟨rfl,rfl⟩:=ih1 h;simp only[hs]at h';exact ih2 h'
 | rule _ ih=>intro e2 s2 h2;exact ih (aN h2)
 | «at» _ ih=>intro e2 s2 h2;exact ih (aN h2)
 | loadIfAlive _ ih=>intro e2 s2 h2;exact ih (aN h2)
 | point _ ih=>intro e2 s2 h2;exact ih (aN h2)
 | alloc _ ih=>intro e2 s2 h2;exact ih (aN h2)
 | fresh _ ih=>intro e2 s2 h2;exact ih (aN h2)
 | ask _ ih=>intro e2 s2 h2;exact ih (aN h2)
 | os _ ih=>intro e2 s2 h2;exact ih (aN h2)
 | handled _ ih=>intro e2 s2 h2;exact ih (aN h2)
 | stack _ ih=>intro e2 s2 h2;exact ih (aN h2)
 | thread _ ih=>intro e2 s2 h2;exact ih (aN h2)
 | newGen _ ih=>intro e2 s2 h2;exact ih (aN h2)
theorem Ww{α:Type}(M:Model)(Γ:Ctx)(t:Sem α):∀(Q Q':α->Pos->Shared->Prop)(E E':Value->Pos->Shared->Prop)(p:Pos)(s:Shared),Sem.wp M Γ t Q E p s->Sem.wp M Γ t Q' E' p s →
  Sem.wp M Γ t (fun a p' s'=>Q a p' s'/\Q' a p' s') (fun e p' s'=>E e p' s'/\E' e p' s') p s:=by
 induction t with
 | pure a=>intro Q Q' E E' p s h h';exact⟨h,h'⟩
 | raise e=>intro Q Q' E E' p s h h';exact⟨h,h'⟩
 | load a _ k ih=>intro Q Q' E E' p s h h';obtain⟨o,ho,h⟩:=h;obtain⟨o',ho',h'⟩:=h';cases ho.symm.trans ho';exact⟨o,ho,ih o _ _ _ _ p s h h'⟩
 | update a _ f k ih=>intro Q Q' E E' p s h h';exact⟨h.1,ih () _ _ _ _ p _ h.2 h'.2⟩
 | choose src m k ih=>intro Q Q' E E' p s h h';exact⟨h.1,ih _ _ _ _ _ p _ h.2 h'.2⟩
 | call c hd g l k ih=>
  intro Q Q' E E' p s h h';obtain⟨r,s1,x,h⟩:=h;obtain⟨r',UG,x',h'⟩:=h';obtain⟨q1,q2⟩:=vU x x'
  cases q1;cases q2
  exact⟨r,s1,x,ih _ _ _ _ _ p _ h h'⟩
 | genState g k ih=>intro Q Q' E E' p s h h';obtain⟨o,ho,h⟩:=h;obtain⟨o',ho',h'⟩:=h';cases ho.symm.trans ho';exact⟨o,ho,ih _ _ _ _ _ p s h h'⟩
 | resume g r l k ih=>
  intro Q Q' E E' p s h h';obtain⟨r1,s1,x,h⟩:=h;obtain⟨r',UG,x',h'⟩:=h'
  have q:r1=r'/\s1=UG:=by
   unfold Wakes at x x';revert x x';generalize s.gens[g]? = gg;intro x x'
   cases gg with
   | none=>exact x.elim
   | some st=>
    cases st with
    | fresh c=>
     cases r with
     | throw y=>exact⟨x.1.trans x'.1.symm,x.2.trans x'.2.symm⟩
     | send v=>
      cases v with
      | none=>
       obtain⟨e1,t1,y1,_,rfl,rfl⟩:=x;obtain⟨e2,t2,y2,_,rfl,rfl⟩:=x';obtain⟨rfl,rfl⟩:=vU y1 y2;exact⟨rfl,rfl⟩
      | _=>exact⟨x.1.trans x'.1.symm,x.2.trans x'.2.symm⟩
    | suspended=>
     obtain⟨e1,t1,y1,_,rfl,rfl⟩:=x;obtain⟨e2,t2,y2,_,rfl,rfl⟩:=x';obtain⟨rfl,rfl⟩:=vU y1 y2;exact⟨rfl,rfl⟩
    | running=>exact⟨x.1.trans x'.1.symm,x.2.trans x'.2.symm⟩
    | finished=>exact⟨x.1.trans x'.1.symm,x.2.trans x'.2.symm⟩
  obtain⟨rfl,rfl⟩:=q;exact⟨_,_,x,ih _ _ _ _ _ p _ h h'⟩
 | _=>intros;first | assumption | (rename_i ih _ _ _ _ _ _ h h';exact ih _ _ _ _ _ _ _ h h')
theorem Gg{α:Type}{M:Model}{A:Around}{t:Sem α}{Q Q':α->Shared->Prop}{E E':Value->Shared->Prop}{s:Shared}(h:wpAny M A t Q E s)(h':wpAny M A t Q' E' s) :
  wpAny M A t (fun a s'=>Q a s'/\Q' a s') (fun e s'=>E e s'/\E' e s') s:=fun Γ p hΓ=>Ww M Γ t _ _ _ _ p s (h Γ p hΓ) (h' Γ p hΓ)
theorem dj{α:Type}{M:Model}{A:Around}{t:Sem α}{Q Q':α->Shared->Prop}{E:Value->Shared->Prop}{s:Shared}(h:wpAny M A t Q E s)(h':wpAny M A t Q' E s):wpAny M A t (fun a s'=>Q a s'/\Q' a s') E s:=
 wpAny_mono (Gg h h') (fun _ _ z=>z) fun _ _ z=>z.1
end L2
namespace L2
open PySem PySem.Spec PyProof.Rows
noncomputable def DictAt(h:Heap)(e:Addr)(dd:Option Addr):Prop:=∃ ob,h.get? e=some ob/\ob.dict=dd
theorem Rq(o:Obj)(f:Array Value->Array Value):(o.mapFields f).dict=o.dict:=by
 obtain⟨c,d,dt,sl⟩:=o
 cases dt <;> rfl
theorem DictAt.upd{h:Heap}{a e:Addr}{f:Array Value->Array Value}{dd:Option Addr}{o:Obj}{vs:Array Value}(x:DictAt h e dd)(ha:h.get? a=some o)(hd:o.data = .fields vs):DictAt (h.update a (Obj.mapFields f)) e dd:=by
 obtain⟨ob,q,r⟩:=x
 by_cases z:a=e
 ·subst z;rw[ha]at q
  cases q
  exact⟨_,Heap.get?_update_self _ ha (Obj.isFreed_of_fields (Obj.data_mapFields hd f)),(Rq _ _).trans r⟩
 ·exact⟨ob,(Heap.get?_update_other _ _ z).trans q,r⟩
theorem DictAt.push{h:Heap}{e:Addr}{dd:Option Addr}(x:DictAt h e dd)(o:Obj):DictAt (h.push o) e dd:=
 let ⟨ob,q,r⟩:=x;⟨ob,j5 _ q,r⟩
section
variable{M:Model}{A:Around}{E:Value->Shared->Prop}{s:Shared}{base:Heap}{env:Env}{outer:List Env}{L e:Addr}{cls a0:Value}{dd:Option Addr}
theorem uF{fl:Value}(ht:s.heap.TracedAtW base e cls a0 fl)(x:DictAt s.heap e dd):wpAny M A (setFlight (.ref e) none) (fun _ s'=>DictAt s'.heap e dd) E s:=by
 obtain⟨oe,vs,T,oT,ts,he,_,hd,h1,_,_,hT,hdT,h3⟩:=ht;unfold setFlight;refine wpAny_bind (wpAny_field he hd h1 ?_);rw[if_pos (show (Value.ref T != Value.none)=true by simp)];exact wpAny_setField hT hdT (Array.getElem?_eq_some_iff.mp h3).1 (x.upd hT hdT)
theorem lJ{oe:Obj}{vs:Array Value}{head:Value}{b:Bool}{Q:Unit->Shared->Prop}(hfr:A.frames=some (env::outer))(hl:s.heap.FunFrames base (env::outer))(hf:env.frame=some L)
  (he:s.heap.get? e=some oe) (hd:oe.data = .fields vs) (hsz:1<vs.size) (x:DictAt s.heap e dd)
  (hq:∀(h1:Heap)(T:Addr)(oT:Obj)(ts:Array Value),DictAt h1 e dd->(∃ oe' vs',h1.get? e=some oe'/\oe'.data = .fields vs'/\vs'[1]? = some (.ref T))->h1.get? T=some oT->oT.data = .fields ts->3<ts.size->Q () { s with heap:=h1 }) :
  wpAny M A (do let a ← frameOf env;let pl ← entryPlaceOf L b;let c ← EntryCells.newEntry head a .none (rawInt L) .none pl;setField (.ref e) 1 c) Q E s:=by
 refine wpAny_bind (wpAny_frameOf_fun hfr hl hf fun h1 hs=>?_);refine wpAny_bind (wpAny_entryPlaceOf fun pl hpl=>?_);unfold EntryCells.newEntry newFields;refine wpAny_bind (wpAny_newObj_type ?_ (hpl.sizeOk5 _ _ _ _ _));obtain⟨sl,e1⟩:=hs.2.2 e oe he
 have x1:DictAt h1 e dd:=by
  obtain⟨ob,q,r⟩:=x;rw[he]at q
  cases q
  exact⟨_,e1,r⟩
 have e2:=j5 (h:=h1) { cls:=.type "traceback",dict:=none,data:=.fields ([head,.ref L,.none,rawInt L,.none]++(if pl.isEmpty then List.replicate 6 Value.none else pl)).toArray } e1;have hd2:({ oe with slots:=sl }:Obj).data = .fields vs:=hd;have ne:e≠h1.objs.size:=kI (gP e1);refine wpAny_setField e2 hd2 hsz (hq _ h1.objs.size { cls:=.type "traceback",dict:=none,data:=.fields ([head,.ref L,.none,rawInt L,.none]++(if pl.isEmpty then List.replicate 6 Value.none else pl)).toArray } _ ((x1.push _).upd e2 hd2) ?_ ?_ rfl ?_)
 ·exact⟨_,_,Heap.get?_update_self _ e2 (Obj.isFreed_of_fields (Obj.data_mapFields hd2 _)),Obj.data_mapFields hd2 _,by simp [hsz]⟩
 ·exact (Heap.get?_update_other _ _ ne).trans (xJ h1 rfl)
 ·simp only[List.size_toArray,List.length_append,List.length_cons,List.length_nil];lia
theorem yp(hfr:A.frames=some (env::outer))(hf:env.frame=some L)(hfl:Heap.FlyingW base (env::outer) e cls a0 s.heap)(x:DictAt s.heap e dd):wpAny M A (noteFrame (.ref e) env) (fun _ s'=>DictAt s'.heap e dd) E s:=by
 obtain⟨_,_,hl,oe,vs,T,oT,ts,he,_,hd,h1,_,hTe,hT,hdT,h3⟩:=hfl;unfold noteFrame;simp only[hf];refine wpAny_bind (wpAny_field he hd h1 ?_);rw[if_pos (show (Value.ref T != Value.none)=true by simp)];refine wpAny_bind (wpAny_field hT hdT h3 ?_);rw[if_neg (show ¬ ((Value.none==rawInt L)=true) by simp [rawInt])];refine wpAny_bind (wpAny_setField hT hdT (Array.getElem?_eq_some_iff.mp h3).1 ?_);refine lJ hfr (hl.of_keeps fun b o hb hnf=>⟨o,(Heap.get?_update_other _ _ fun z=>?_).trans hb,rfl⟩) hf ((Heap.get?_update_other _ _ hTe).trans he) hd (Array.getElem?_eq_some_iff.mp h1).1 (x.upd hT hdT) fun _ _ _ _ z _ _ _ _=>z;rw[<-z,hT]at hb
 cases hb
 exact hnf ts hdT
theorem Ib(hfr:A.frames=some (env::outer))(hf:env.frame=some L)(hfl:Heap.FlyingW base (env::outer) e cls a0 s.heap)(x:DictAt s.heap e dd):wpAny M A (leaving env (.ref e)) (fun _ s'=>DictAt s'.heap e dd) E s:=by
 unfold leaving;refine wpAny_bind (wpAny_mono (dj (wpAny_looks_onW (Q:=fun _ s'=>Heap.HeldW base (env::outer) e cls a0 L s'.heap) hfr hf hfl fun h' k _=>k) (yp hfr hf hfl x)) (fun _ s1 z=>?_) fun _ _ z=>z);exact uF z.1.2.2.2 z.2
theorem Ip{oe:Obj}{vs:Array Value}(hfr:A.frames=some (env::outer))(hl:s.heap.FunFrames base (env::outer))(hf:env.frame=some L)(he:s.heap.get? e=some oe)(hd:oe.data = .fields vs)(h1:vs[1]? = some .none)
  (x:DictAt s.heap e dd):wpAny M A (leaving env (.ref e)) (fun _ s'=>DictAt s'.heap e dd) E s:=by
 unfold leaving noteFrame;simp only[hf];refine wpAny_bind (wpAny_bind (wpAny_field he hd h1 ?_));rw[if_neg (by decide)];refine lJ hfr hl hf he hd (Array.getElem?_eq_some_iff.mp h1).1 x fun h2 T oT ts x2 ⟨oe',vs',q1,q2,q3⟩ q4 q5 q6=>?_;unfold setFlight;refine wpAny_bind (wpAny_field q1 q2 q3 ?_);rw[if_pos (show (Value.ref T != Value.none)=true by simp)];exact wpAny_setField q4 q5 q6 (x2.upd q4 q5)
end
section
variable{M:Model}{A:Around}{E:Value->Shared->Prop}{s:Shared}{base:Heap}{env:Env}{outer l:List Env}{L e:Addr}{cls a0:Value}{dd:Option Addr}{Q:Unit->Shared->Prop}
theorem Ia(hfr:A.frames=some (env::outer))(hf:env.frame=some L)(hfl:Heap.FlyingW base (env::outer) e cls a0 s.heap)(x:DictAt s.heap e dd)
  (hQ:∀ h',Heap.FlyingW base outer e cls a0 h'->s.heap.UpToSlots h'->DictAt h' e dd->Q () { s with heap:=h' }):wpAny M A (leaving env (.ref e)) Q E s:=
 wpAny_mono (dj (wpAny_leaves_onW (Q:=fun _ s'=>∃ h',s' = { s with heap:=h' }/\Heap.FlyingW base outer e cls a0 h'/\s.heap.UpToSlots h') hfr hf hfl fun h' k1 k2=>⟨h',rfl,k1,k2⟩) (Ib hfr hf hfl x))
  (fun _ _ ⟨⟨h',z,k1,k2⟩,k3⟩=>by subst z;exact hQ h' k1 k2 k3) fun _ _ z=>z
theorem Mf(hfr:A.frames=some (env::outer))(hf:env.frame=some L)(hfl:Heap.FlyingW base (env::outer) e cls a0 s.heap)(x:DictAt s.heap e dd)
  (hQ:∀ h',Heap.HeldW base (env::outer) e cls a0 L h'->s.heap.UpToSlots h'->DictAt h' e dd->Q () { s with heap:=h' }):wpAny M A (noteFrame (.ref e) env) Q E s:=
 wpAny_mono (dj (wpAny_looks_onW (Q:=fun _ s'=>∃ h',s' = { s with heap:=h' }/\Heap.HeldW base (env::outer) e cls a0 L h'/\s.heap.UpToSlots h') hfr hf hfl fun h' k1 k2=>⟨h',rfl,k1,k2⟩) (yp hfr hf hfl x))
  (fun _ _ ⟨⟨h',z,k1,k2⟩,k3⟩=>by subst z;exact hQ h' k1 k2 k3) fun _ _ z=>z
theorem YH(hh:Heap.HeldW base l e cls a0 L s.heap)(x:DictAt s.heap e dd)(hQ:∀ h',Heap.FlyingW base l e cls a0 h'->s.heap.UpToSlots h'->DictAt h' e dd->Q () { s with heap:=h' }):wpAny M A (setFlight (.ref e) none) Q E s:=
 wpAny_mono (dj (wpAny_landsW (Q:=fun _ s'=>∃ h',s' = { s with heap:=h' }/\Heap.FlyingW base l e cls a0 h'/\s.heap.UpToSlots h') hh fun h' k1 k2=>⟨h',rfl,k1,k2⟩) (uF hh.2.2.2 x))
  (fun _ _ ⟨⟨h',z,k1,k2⟩,k3⟩=>by subst z;exact hQ h' k1 k2 k3) fun _ _ z=>z
theorem Ew{oe:Obj}{vs:Array Value}(hfr:A.frames=some (env::outer))(hf:env.frame=some L)(hkb:base.StaysIn s.heap)(hl:s.heap.FunFrames base (env::outer))(hb:base.get? e=none)
  (he:s.heap.get? e=some oe) (hd:oe.data = .fields vs) (h1:vs[1]? = some .none) (h0:vs[0]? = some a0)
  (hQ:∀ h',Heap.FlyingW base outer e oe.cls a0 h'->s.heap.UpToSlots h'->DictAt h' e oe.dict->Q () { s with heap:=h' }):wpAny M A (leaving env (.ref e)) Q E s:=
 wpAny_mono (dj (wpAny_leaving_firstW (Q:=fun _ s'=>∃ h',s' = { s with heap:=h' }/\Heap.LeftW base (env::outer) e oe.cls a0 s.heap h') hfr hl hf he hkb hb hd h1 h0 fun h' k=>⟨h',rfl,k⟩) (Ip hfr hl hf he hd h1 ⟨oe,he,rfl⟩))
  (fun _ _ ⟨⟨h',z,k1,⟨_,_,k2⟩,k3,k4⟩,k5⟩=>by subst z;exact hQ h' ⟨k1,hb,k2,k3⟩ k4 k5) fun _ _ z=>z
end
noncomputable def ou(P:Program)(w:World):Ge:=fun outer H s E e s'=>
 ∃(ea:Addr)(cls a0:Value)(H':Hp)(B:Heap),e = .ref ea/\s'.os=s.os/\AllBare s'.gens/\Heap.FlyingW B outer ea cls a0 s'.heap ∧
  j6 P w H' s'.heap/\Un (frs outer) [] H H' s.heap s'.heap/\(∀ b,(H' b).isSome=true->∃ o,s'.heap.get? b=some o/\B.get? b=some o) ∧
  (∀ b o,s.heap.get? b=some o->b∉frs outer->∃ o',s'.heap.get? b=some o'/\B.get? b=some o')/\∃ dd,DictAt s'.heap ea dd/\E cls dd H'
section
variable{P:Program}{w:World}{H H':Hp}{h h0 h1 h2 B:Heap}{a:Addr}{o:HO}{fs:List Addr}
theorem bL.there(x:bL P w H h a o):∃ ob,h.get? a=some ob:=by
 cases o with
 | lst xs=>obtain⟨_,_,_,_,e⟩:=x;exact⟨_,e⟩
 | tup xs=>obtain⟨_,_,_,ob,e,_⟩:=x;exact⟨ob,e⟩
 | dK kvs=>obtain⟨_,_,_,_,ob,_,_,e,_⟩:=x;exact⟨ob,e⟩
 | dT kvs=>obtain⟨_,_,_,_,ob,_,_,e,_⟩:=x;exact⟨ob,e⟩
 | set S n=>obtain⟨ob,_,_,_,e,_⟩:=x;exact⟨ob,e⟩
 | ins C dx fs=>obtain⟨_,_,_,e,_⟩:=x;exact⟨_,e⟩
 | own y=>exact x
 | xd fs=>obtain⟨_,⟨ob,_,_,e,_⟩,_⟩:=x;exact⟨ob,e⟩
 | rng lo hi=>obtain⟨_,_,_,e⟩:=x;exact⟨_,e⟩
 | Im ob u=>obtain⟨e,_⟩:=x;exact⟨_,e⟩
 | W5 ps=>exact⟨_,x⟩
 | met f y=>exact⟨_,x⟩
 | ext φ=>obtain⟨_,e,_⟩:=x;exact e
theorem j6.flown(hok:j6 P w H h)(hB:∀ b,(H b).isSome=true->∃ ob,h.get? b=some ob/\B.get? b=some ob)(st:B.StaysIn h2):j6 P w H h2:=fun a o e=>
 (hok a o e).stay (fun b u hb q=>by
  have hs:(H b).isSome=true:=by
   rcases hb with z | z
   ·rw[z,e];rfl
   ·rw[z];rfl
  obtain⟨ob,e1,e2⟩:=hB b hs;rw[q]at e1
  cases e1
  exact st b _ e2) (fun _ q=>q) fun _ _ q=>q
theorem Un.flown(un:Un fs [] H H' h0 h1)(hC:∀ b ob,h0.get? b=some ob->b∉fs->∃ o',h1.get? b=some o'/\B.get? b=some o')(st:B.StaysIn h2)(sl:h1.UpToSlots h2)
  (fr:∀ b∈fs,H b=none/\∃ ob,h0.get? b=some ob/\∀ vs,ob.data≠.fields vs):Un fs [] H H' h0 h2:=by
 have slot:∀ b ob,h0.get? b=some ob->H b=none->b∈fs->∃ sl,h2.get? b=some { ob with slots:=sl }:=fun b ob q n hb=>by
  obtain⟨_,o1,e1,nf⟩:=fr b hb;rw[q]at e1
  cases e1
  obtain⟨s1,e2⟩:=un.slot b ob q n hb (by simp);obtain⟨s2,e3⟩:=sl b _ e2 nf;exact⟨s2,e3⟩
 refine⟨fun b ob q n hb hx=>?_,fun b ob q n hb _=>slot b ob q n hb,fun b ob q n hx=>un.free b ob q n hx,fun b ob q hx=>?_,un.tups,un.tH,un.uJ⟩
 ·obtain⟨o',e1,e2⟩:=hC b ob q hb;rw[un.keep b ob q n hb hx]at e1
  cases e1
  exact st b _ e2
 ·by_cases hb:b∈fs
  ·obtain⟨s2,e⟩:=slot b ob q (fr b hb).1 hb;exact⟨_,e⟩
  ·obtain⟨o',_,e2⟩:=hC b ob q hb;exact⟨o',st b _ e2⟩
end
section
variable{P:Program}{w:World}{K:bO}{mg:Str->Option Value}{base:Heap}{N:List Str}{qual:Str}{scope:Scope}{f:Addr}{cd:Value}{A:Around}{outer:List Env}{s:Shared}{H:Hp}{E E':XK}
theorem gG{env:Env}{L:Addr}{l:List Env}(h:env.frame=some L):frs (env::l)=L::frs l:=by
 unfold frs;rw[List.filterMap_cons,h]
theorem Inv.frames{X:Cx}{pins:List (Addr×Obj)}{σ:St}{H:Hp}{s:Shared}(I:Inv X pins σ H s):∀ b∈frs X.stack,H b=none/\∃ ob,s.heap.get? b=some ob/\∀ vs,ob.data≠.fields vs:=
 fun b hb=>⟨I.qD b hb,let ⟨_,ob,e,nf⟩:=I.stack.mem hb;⟨ob,e,nf⟩⟩
theorem Inv.pJ{X:Cx}{pins:List (Addr×Obj)}{σ:St}{H:Hp}{s:Shared}(I:Inv X pins σ H s):∀ b∈frs X.outer,X.H₀ b=none/\∃ ob,X.s₀.heap.get? b=some ob/\∀ vs,ob.data≠.fields vs:=
 fun b hb=>⟨I.ok.Vh b hb,let ⟨_,ob,e,nf⟩:=I.ok.qw.mem hb;⟨ob,e,nf⟩⟩
theorem QL(hE:∀ c d H,E' c d H->E c d H):Passes (ou P w) (oU (ou P w) P w K mg base N qual scope f cd A outer s H E) E':=by
 intro pins σ H1 s1 e s' I h;obtain⟨ea,cls,a0,H',B,rfl,ho,hg,fl,hok,un,hB,hC,dd,hdd,hq⟩:=h;have nL:∀ b ob,s.heap.get? b=some ob->b≠s.heap.objs.size:=fun b ob q=>kI (gP q);have J:=I.call' ho un hok hg (fun _ z=>nomatch z);have ub:Un (frs outer) [] H H' s.heap s'.heap:=J.base
 have We:∀ b ob,s.heap.get? b=some ob->b∉frs outer->∃ o',s'.heap.get? b=some o'/\B.get? b=some o':=fun b ob q hb=>by
  obtain⟨o1,e1⟩:=I.base.there b ob q (by show b∉([]:List Addr);simp);refine hC b o1 e1 fun z=>?_;rw[show frs (oU (ou P w) P w K mg base N qual scope f cd A outer s H E).stack=s.heap.objs.size::frs outer from gG rfl]at z;exact (bI.mp z).elim (nL b ob q) hb
 show wpAny _ _ (leaving _ (.ref ea)) _ _ s';refine Ia (L:=s.heap.objs.size) I.ok.frames rfl fl hdd fun h' Cq sl dk=>?_;refine⟨ea,cls,a0,H',B,rfl,ho.trans I.os,hg,Cq,hok.flown hB Cq.1,ub.flown We Cq.1 sl I.pJ,fun b hb=>?_,fun b ob q hb=>?_,dd,dk,hE _ _ _ hq⟩
 ·obtain⟨ob,_,e2⟩:=hB b hb;exact⟨ob,Cq.1 b _ e2,e2⟩
 ·obtain⟨o',_,e2⟩:=We b ob q hb;exact⟨o',Cq.1 b _ e2,e2⟩
noncomputable def del(H:Hp)(e:Addr):Hp:=fun b=>if b=e then none else H b
theorem cQ{H:Hp}{e:Addr}:del H e e=none:=if_pos rfl
theorem bB{H:Hp}{e b:Addr}(h:b≠e):del H e b=H b:=if_neg h
noncomputable def Loose(o:Option HO):Prop:=o=none ∨ ∃ φ,o=some (.ext φ)
section
variable{P:Program}{w:World}{H H':Hp}{h h':Heap}{e:Addr}{fs ex:List Addr}
theorem Loose.ne{b:Addr}{o:HO}(l:Loose (H e))(q:H b=some o)(n:∀ φ,o≠.ext φ):b≠e:=fun z=>by
 subst z;rcases l with y | ⟨φ,y⟩
 ·rw[q]at y;cases y
 ·rw[q]at y;cases y;exact n φ rfl
theorem j6.del(x:j6 P w H h)(l:Loose (H e)):j6 P w (L2.del H e) h:=fun a o q=>by
 by_cases z:a=e
 ·subst z;rw[cQ]at q
  cases q
 ·rw[bB z]at q;refine (x a o q).stay (fun _ _ _ y=>y) (fun b y=>?_) fun b xs y=>?_
  ·rw[bB (l.ne y fun _=>nofun)];exact y
  ·rw[bB (l.ne y fun _=>nofun)];exact y
theorem Un.del(u:Un fs ex H H' h h')(l:Loose (H' e)):Un fs ex H (L2.del H' e) h h':=by
 refine⟨u.keep,u.slot,fun b o q n x=>?_,u.there,fun b xs q=>?_,fun b o v q=>?_,fun b ps q=>?_⟩
 ·by_cases z:b=e
  ·rw[z,cQ]
  ·rw[bB z];exact u.free b o q n x
 ·have y:=u.tups b xs q;rw[bB (l.ne y fun _=>nofun)];exact y
 ·have y:=u.tH b o v q;rw[bB (l.ne y fun _=>nofun)];exact y
 ·obtain⟨m,y⟩:=u.uJ b ps q;exact⟨m,by rw[bB (l.ne y fun _=>nofun)];exact y⟩
end
noncomputable def SQ(X:Cx)(E:XK):Prop:=∀(pins:List (Addr×Obj))(σ:St)(H:Hp)(s:Shared)(e C:Addr)(a0:Value)(oe:Obj)(vs:Array Value),Inv X pins σ H s->X.s₀.heap.get? e=none->Loose (H e)->s.heap.get? e=some oe->oe.cls = .ref C →
 oe.data = .fields vs->vs[0]? = some a0->vs[1]? = some .none->E (.ref C) oe.dict (del H e)->X.xe (.ref e) s
theorem Yr:SQ (oU (ou P w) P w K mg base N qual scope f cd A outer s H E) E:=by
 intro pins σ H1 s1 e C a0 oe vs I en hl he hc hd h0 h1 hq;have es:frs (oU (ou P w) P w K mg base N qual scope f cd A outer s H E).stack=s.heap.objs.size::frs outer:=gG rfl;generalize hS:e::frs (oU (ou P w) P w K mg base N qual scope f cd A outer s H E).stack=S
 have hin:∀ env∈(oU (ou P w) P w K mg base N qual scope f cd A outer s H E).stack,∀ b,env.frame=some b->b∈S:=
  fun env he b hb=>hS▸GQ _ (List.mem_filterMap.mpr ⟨env,he,hb⟩)
 have inB:∀ b ob,s1.heap.get? b=some ob->b≠e->b∉frs (oU (ou P w) P w K mg base N qual scope f cd A outer s H E).stack->(PySem.W.hideAll s1.heap S).get? b=some ob:=
  fun b ob q z hb=>PySem.W.hideAll_get _ q (by rw[<-hS];exact fun y=>(bI.mp y).elim z hb)
 have hB:∀ b,(del H1 e b).isSome=true->∃ ob,s1.heap.get? b=some ob/\(PySem.W.hideAll s1.heap S).get? b=some ob:=fun b hb=>by
  obtain⟨u,hu⟩:=Option.isSome_iff_exists.mp hb
  have z:b≠e:=fun z=>by rw[z,cQ]at hu;cases hu
  rw[bB z]at hu;obtain⟨ob,q⟩:=(I.hok b u hu).there;exact⟨ob,q,inB b ob q z fun y=>by rw[I.qD b y]at hu;cases hu⟩
 have We:∀ b ob,s.heap.get? b=some ob->b∉frs outer->∃ o',s1.heap.get? b=some o'/\(PySem.W.hideAll s1.heap S).get? b=some o':=fun b ob q hb=>by
  obtain⟨o1,e1⟩:=I.base.there b ob q (by show b∉([]:List Addr);simp);refine⟨o1,e1,inB b o1 e1 (fun z=>?_) fun z=>?_⟩
  ·subst z;have en':s.heap.get? b=none:=en;rw[q]at en'
   cases en'
  ·rw[es]at z;exact (bI.mp z).elim (kI (gP q)) hb
 have ub:Un (frs outer) [] H (del H1 e) s.heap s1.heap:=Un.del I.base hl;show wpAny _ _ (leaving _ (.ref e)) _ _ _;refine Ew (L:=s.heap.objs.size) (base:=PySem.W.hideAll s1.heap S) I.ok.frames rfl (fun b ob q=>PySem.W.of_hideAll _ q) (PySem.W.funFrames_hide I.stack hin) (PySem.W.hideAll_none _ (by rw[<-hS];exact Cu)) he hd h1 h0 fun h2 fl sl dk=>?_;rw[hc]at fl;refine⟨e,.ref C,a0,del H1 e,_,rfl,I.os,I.bare,fl,(I.hok.del hl).flown hB fl.1,ub.flown We fl.1 sl I.pJ,fun b hb=>?_,fun b ob q hb=>?_,_,dk,hq⟩
 ·obtain⟨ob,_,e2⟩:=hB b hb;exact⟨ob,fl.1 b _ e2,e2⟩
 ·obtain⟨o',_,e2⟩:=We b ob q hb;exact⟨o',fl.1 b _ e2,e2⟩
end
noncomputable abbrev VB:List Value:=[.type "ValueError",.type "Exception",.type "BaseException",.type "object"]
theorem Inv.qB5{X:Cx}{pins:List (Addr×Obj)}{σ:St}{H:Hp}{s:Shared}{e:Addr}(I:Inv X pins σ H s)(hx:X.ex=[])(q:s.heap.get? e=none):X.s₀.heap.get? e=none:=by
 cases z:X.s₀.heap.get? e with
 | none=>rfl
 | some o=>
  obtain⟨o',y⟩:=I.base.there e o z (by rw[hx];simp);rw[q]at y
  cases y
theorem Inv.Qn{X:Cx}{pins:List (Addr×Obj)}{σ:St}{H:Hp}{s:Shared}{e:Addr}(I:Inv X pins σ H s)(q:s.heap.get? e=none):H e=none:=by
 cases z:H e with
 | none=>rfl
 | some o=>
  obtain⟨o',y⟩:=(I.hok e o z).there;rw[q]at y
  cases y
noncomputable def XP(X:Cx)(pins:List (Addr×Obj))(E:St->XK)(e:Value)(s':Shared):Prop:=∃ σ1 H1 s1,Inv X pins σ1 H1 s1/\ou X.prog X.w X.stack H1 s1 (E σ1) e s'
noncomputable abbrev TEX:=St->Hp->VK->XK->Prop
noncomputable abbrev TSX:=Ends->(St->XK)->St->Hp->Prop
noncomputable def PEX(X:Cx)(e:Expr)(t:TEX):Prop:=∀(pins:List (Addr×Obj))(s:Shared)(σ:St)(H:Hp)(Q:VK)(E:St->XK),Inv X pins σ H s->t σ H Q (E σ)->wpAny (model X.prog X.w) X.A (eval e X.env) (EP X pins σ Q) (XP X pins E) s
noncomputable def PSX(X:Cx)(st:List Stmt)(t:TSX):Prop:=∀(pins:List (Addr×Obj))(s:Shared)(σ:St)(H:Hp)(D:Ends)(E:St->XK),Inv X pins σ H s->t D E σ H->wpAny (model X.prog X.w) X.A (execs st X.env) (SP X pins D) (XP X pins E) s
section
variable{X:Cx}{k:Nat}{f C:Addr}{fd:FuncData}{ps:List Str}{sp:Sp}{lu:List V}{ds:List Value}{x m:Str}{p pos pos':Pos}{e:Expr}{es:List Expr}{t:TA}{tx:TEX}
noncomputable def X8(sp:Sp)(lu:List V)(t:TA):TEX:=fun σ H Q E=>t σ H fun vs H1=>sp (vs++lu) H1 Q E
theorem UT{pins:List (Addr×Obj)}{σ:St}{H:Hp}{s:Shared}{Q:VK}{E:St->XK}{us:List Value}{vs:List V}(F:aM X.prog X.w X.K X.mg X.base (ou X.prog X.w) k f fd ps sp)(hr:eF k X.A)(hb:Binds X.K fd ps ds)(hd:Vals lu ds)
  (I:Inv X pins σ H s) (r:Vals vs us) (h:sp (vs++lu) H Q (E σ)):wpAny (model X.prog X.w) X.A (call (.ref f) us) (EP X pins σ Q) (XP X pins E) s:=by
 have r2:Vals (vs++lu) (us++ds):=r.append hd
 have hl:(us++ds).length=ps.length:=by
  rw[<-r2.length];exact F.len _ _ _ _ h
 refine wpAny_call (codeAny_mono (F.run X.A X.stack s H ⟨us,[]⟩ (us++ds) (vs++lu) Q (E σ) hr I.env0 (hb s us I.lq hl) r2 h) fun r s' z=>?_)
 cases r with
 | error e=>exact⟨σ,H,s,I,z⟩
 | ok fl=>
  cases fl with
  | ret u=>exact I.after z
  | next=>exact False.elim z
  | brk=>exact False.elim z
  | cont=>exact False.elim z
theorem Dv(F:aM X.prog X.w X.K X.mg X.base (ou X.prog X.w) k f fd ps sp)(hr:eF k X.A)(hg:Gl X x)(hm:X.mg x=some (.ref f))(hk:PySem.W.keepIn X.K (.ref f)=true)(hb:Binds X.K fd ps ds)(hd:Vals lu ds)
  (ha:PA X.ZS (e::es) t) (hdb:(x==("__debug__" : Str))=false:=by decide) (he:starEach (e::es) X.env=(false,eval e X.env)::starEach es X.env:=by rfl) (hpl:(backTo pos (starEach es X.env)).any (·.1)=false:=by rfl) :
  PEX X (.Call (.Name x p) (e::es) [] pos) (X8 sp lu t):=by
 intro pins s σ H Q E I h;refine wpAny_Call_Name_kw (oG I hg hm ?_ hdb);refine PySem.W.callWith_K (h₀:=X.base) I.ok.mod.YQ hk (wpAny_mono (ha pos pins s σ H _ (I.wish _) h) (fun us s1 z=>?_) fun _ _ z=>z.elim) he hpl;refine aJ fun G_ g_=>?_;obtain⟨vs,H1,I1,r,q⟩:=z;apply g_;clear g_ G_;exact⟨I1.fQ.lq,UT F hr hb hd I1.fQ r q⟩
theorem K7{i:Nat}(hN:X.N.Nodup)(hi:X.N[i]? = some x)(hx:Loc X.env.scope x)(he:PEX X e tx)(hs:swapsWith e (some (.Name x pos')) pos.line X.env=pure false:=by rfl)(hf:X.fn x=true∨X.env.scope.names.lookup x=some .local:=by first | exact .inl rfl | exact .inr rfl | assumption) :
  PSX X [.Assign [.Name x pos'] e pos] (fun D E σ H=>tx σ H (fun v H1=>D.nx (σ.set i (some v)) H1) (E σ)):=by
 intro pins s σ H D E I h;refine wpAny_execs_cons (wpAny_Assign_Name (au (he pins s σ H _ E I h) fun v s1 ⟨y,H1,I1,r1,q1⟩=>?_) hs);exact mC I1 hN hi hx r1 (fun s2 I2=>wpAny_execs_nil ⟨_,H1,I2,q1⟩) hf
end
noncomputable abbrev Cx.Yc(X:Cx)(e:Addr):Cx:={ X with A:=X.A.mark (some (.ref e)),calm:=false,xe:=fun _ _=>False }
section
variable{X:Cx}{pins:List (Addr×Obj)}{σ:St}{H:Hp}{s:Shared}{ea:Addr}
theorem Inv.Yc(I:Inv X pins σ H s)(ea:Addr):Inv (X.Yc ea) pins σ H s:=
 ⟨⟨I.ok.mod,I.ok.kind,I.ok.glob,I.ok.blt,I.ok.above,I.ok.inj,I.ok.has,I.ok.cab,(fun z=>Bool.noConfusion z),I.ok.frames,I.ok.stk,I.ok.exf,I.ok.bs,I.ok.OD,I.ok.Hw,I.ok.Rf,I.ok.qw,I.ok.Vh⟩,I.os,I.bare,I.base,I.loc,I.cell,I.free,I.jH,I.pin,I.hok,I.len⟩
theorem Inv.ZJ(I:Inv (X.Yc ea) pins σ H s)(ok:X.Ok):Inv X pins σ H s:=⟨ok,I.os,I.bare,I.base,I.loc,I.cell,I.free,I.jH,I.pin,I.hok,I.len⟩
theorem SP.ZJ{D:Ends}{f:Flow}{s':Shared}(ok:X.Ok)(h:SP (X.Yc ea) pins D f s'):SP X pins D f s':=by
 cases f with
 | next=>obtain⟨σ',H',I,q⟩:=h;exact⟨σ',H',I.ZJ ok,q⟩
 | brk=>obtain⟨σ',H',I,q⟩:=h;exact⟨σ',H',I.ZJ ok,q⟩
 | cont=>obtain⟨σ',H',I,q⟩:=h;exact⟨σ',H',I.ZJ ok,q⟩
 | ret u=>obtain⟨v,σ',H',I,r,q⟩:=h;exact⟨v,σ',H',I.ZJ ok,r,q⟩
variable{C:Addr}{x:Str}{np hpos pos:Pos}{body:List Stmt}{b0:Stmt}{suite:List Stmt}{tb:TSX}{th:TS}
end
end L2
namespace L2
open PySem PySem.Spec PyProof.Rows PySem.W
structure ExcQ(K:Frag)(C:Addr):Prop where
 ga:findIn K (.ref C) "__getattribute__" = some (some (.builtin "BaseException.__getattribute__"))
 no:findIn K (.ref C) "__getattr__" = some none
 cl:findIn K (.ref C) "__class__" = some (some (.builtin "object.__class__"))
 ob:mroIn K C (.type "object")=some true
 be:mroIn K C (.type "BaseException")=some true
 is:(clsIn K C).isSome=true
section
variable{prog:Program}{w:World}{A:Around}{E:Value->Shared->Prop}{h:Heap}{g:Array GenState}{d:Drawn}{t:Nat}{os:OsState}{a C:Addr}{o:Obj}{K:Frag}
end
section
variable{X:Cx}
end
end L2
namespace L2
open PySem PySem.Spec PyProof.Rows
section
variable{X:Cx}{pins:List (Addr×Obj)}{σ:St}{H:Hp}{s:Shared}{ea C:Addr}{x n:Str}{np hpos pos:Pos}{body orelse:List Stmt}{b0:Stmt}{suite:List Stmt}{tb:TSX}{th te:TS}
noncomputable def qA1(K:bO)(C:Addr)(tb:TSX)(th te:TS):TS:=fun D σ H=>tb { D with nx:=te D } (fun σ' cls _ H'=>PySem.W.exmOne K cls (.ref C)=some true/\th D σ' H') σ H
theorem K8(hb:PSX X body tb)(hg:Gl X x)(hm:X.mg x=some (.ref C))(hh:∀ e:Addr,Ac (X.Yc e) (b0::suite) th)(hel:Ac X orelse te)(hst:X.stack=X.env::X.outer:=by rfl)(hfr:X.env.frame=some X.env.locals:=by rfl)(hdb:(x==("__debug__" : Str))=false:=by decide) :
  PS X (.Try body [.ExceptHandler (some (.Name x np)) none (b0::suite) hpos] orelse [] pos) (qA1 X.K C tb th te):=by
 intro pins s σ H D I h;refine wpAny_Try_except (wpAny_mono (hb pins s σ H _ _ I h) (fun f s1 q=>?_) fun e s1 q=>?_)
 ·cases f with
  | next=>
   obtain⟨σ',H',I',q⟩:=q;exact hel pins s1 σ' H' D I' q
  | brk=>exact q
  | cont=>exact q
  | ret u=>exact q
 obtain⟨σ1,H1,s0,I1,ea,cls,a0,H',B,rfl,ho,hgn,fl,hok,un,hB,hC,_,_,hmt,hth⟩:=q;have RM:=I1.ok.frames;rw[hst]at fl RM;refine wpAny_looks_onW RM hfr fl fun h4 Kl sl4=>wpAny_landsW Kl fun h5 Zi sl5=>?_;have u5:=un.flown hC Zi.1 (sl4.trans sl5) I1.frames;have J5:Inv X pins σ1 H' { s1 with heap:=h5 }:=I1.call' ho u5 (hok.flown hB Zi.1) hgn (fun _ z=>nomatch z);obtain⟨ob,hob,hoc⟩:=Zi.there;refine wpAny_handleBy_cons (codeAny_handlers_test (oG (J5.Yc ea) hg hm ?_ hdb)) (by intro z;cases z)
 have LT:PySem.W.Looks (model X.prog X.w) h5 (typeOf (.ref ea)) cls:=by
  rw[<-hoc];exact (PySem.W.Looks.ld hob).andThen .now
 refine (PySem.W.exm_one J5.lq LT hmt).here (codeAny_handlers_suite ?_);refine lands_againW Zi fun h6 fl6 sl6=>?_;have u6:=un.flown hC fl6.1 ((sl4.trans sl5).trans sl6) I1.frames;have J6:Inv X pins σ1 H' { s1 with heap:=h6 }:=I1.call' ho u6 (hok.flown hB fl6.1) hgn (fun _ z=>nomatch z);exact wpAny_mono (hh ea pins _ σ1 H' D (J6.Yc ea) hth) (fun f s7 q=>q.ZJ I1.ok) fun _ _ z=>z.elim
end
section
variable{X:Cx}
end
section
variable{P:Program}{w:World}{K:bO}{mg:Str->Option Value}{base:Heap}
theorem cY.okX{x qual:Str}{st:Stmt}{f:Addr}{fd:FuncData}{N ps:List Str}{k:Nat}{sp:Sp}(F:cY K x qual st f fd)(S:aH N ps (aB st))(len:∀ vs H Q E,sp vs H Q E->vs.length=ps.length)
  (hbody:∀(cdv:Value)(A:Around)(outer:List Env)(s:Shared)(H:Hp)(vs:List V)(Q:VK)(E:XK),eF k (A.deeper (envOfC qual (aB st) s.heap.objs.size f cdv))->sp vs H Q E →
   ∃ t,Ac (oU (ou P w) P w K mg base N qual (aB st) f cdv A outer s H E) (iH st) t/\t { nx:=fun _ H'=>Q .non H',rt:=Q } (start N vs) H):aM P w K mg base (ou P w) (k+1) f fd ps sp:=by
 refine aJ fun G_ g_=>?_;obtain⟨oc,od,kV,doc,pm,an,cdv,ct,osl,rfl,lk,hcd⟩:=F.ex;apply g_;clear g_ G_;exact Wg lk hcd S len fun A outer s H vs Q E hr hsp=>hbody cdv A outer s H vs Q E hr hsp
end
end L2
namespace L2
open PySem PySem.Spec PyProof.Rows PySem.W
noncomputable def pM(K:Frag)(C fI:Addr):Bool:=match K.lookup C with
 | some ⟨.type "type",_,.cls cd,sl⟩=>(match cd.mro,sl.toList with
  | .ref C1::bm,[_,_,_,_,some (.builtin n),_]=>C1==C&&(n == "ValueError.__new__" && (!cd.hasDel&&(cd.hasDict&&(tailIn K VB bm&&(nsOkIn K cd.ns&&(nsIn K cd.ns "__init__" == some (some (.ref fI))&&isFn K (.ref fI)))))))
  | _,_=>false)
 | _=>false
noncomputable def GK(h:Heap)(C fI:Addr):Prop:=∃ bm N nm qn bs sn sub ab col dd k0 k1 k2 k3 k5 mN oI,h.get? C=some (excClassObj nm qn C N bs bm true sn sub ab col dd k0 k1 k2 k3 k5 "ValueError.__new__")/\h.Ns N mN ∧
 mN "__init__" = some (.ref fI)/\OwnTail h VB bm/\h.get? fI=some oI/\oI.cls = .type "function"
theorem VL{K:Frag}{h:Heap}{N:Addr}{mg:Str->Option Value}{n:Str}{v:Value}(X:K.In h)(G:h.Ns N mg)(e:nsIn K N n=some (some v)):mg n=some v:=by
 obtain⟨o,es,ep,ho,hd,_,hf⟩:=G;unfold nsIn at e
 split at e
 ·rename_i c d es1 n1 sl q
  have z:=X _ _ q;rw[ho]at z
  cases z
  cases hd
  split at e
  ·rename_i he
   cases e
   rw[<-hf];unfold nsFind findBy;rw[<-Array.find?_toList,he];rfl
  ·split at e <;> cases e
 ·cases e
theorem GK.of{K:Frag}{h:Heap}{C fI:Addr}(q:pM K C fI=true)(X:K.In h):GK h C fI:=by
 unfold pM at q
 split at q
 ·rename_i ddc cdc slc lk
  split at q
  ·rename_i C1 bm k0 k1 k2 k3 n k5 em es
   simp only[Bool.and_eq_true,beq_iff_eq,Bool.not_eq_true']at q;obtain⟨q1,q2,q3,q3d,q4,q5,q6,q7⟩:=q;subst q1 q2;obtain⟨nm,bs,mro,ns,qn,hd,sn,sub,ab,col,del⟩:=cdc;simp only at em q3 q5 q6 q3d;subst em q3 q3d;obtain⟨l⟩:=slc;simp only at es;subst es
   have z:∃ oI,h.get? fI=some oI/\oI.cls = .type "function" := by
    unfold isFn at q7;have q8:=beq_iff_eq.mp q7;simp only[typeIn]at q8
    cases lf:K.lookup fI with
    | none=>rw[lf]at q8;cases q8
    | some ob=>rw[lf]at q8;exact⟨ob,X _ _ lf,jO q8⟩
   obtain⟨oI,z1,z2⟩:=z;exact⟨bm,ns,nm,qn,bs,sn,sub,ab,col,ddc,k0,k1,k2,k3,k5,_,oI,X _ _ lk,.of_isNs (isNs_of_in X q5),VL X (.of_isNs (isNs_of_in X q5)) q6,tail_of_in X q4,z1,z2⟩
  ·cases q
 ·cases q
section
variable{prog:Program}{w:World}{A:Around}{E:Value->Shared->Prop}{h:Heap}{g:Array GenState}{d:Drawn}{t:Nat}{os:OsState}{C fI:Addr}
theorem Ng{rest:List Value}{Q:Value->Shared->Prop}(c:GK h C fI)(hrest:rest.length<=sizeLine)
  (hq:∀ h' e,Heap.MadeExcOf h h' e (.ref C) rest->wpAny (model prog w) (A.under (.builtin "type.__call__" ⟨.ref C::rest,[]⟩)) (call (.ref fI) (.ref e::rest)) (fun r s'=>r = .none/\Q (.ref e) s') E ⟨h',g,d,t,os⟩) :
  wpAny (model prog w) A (call (.ref C) rest) Q E ⟨h,g,d,t,os⟩:=by
 obtain⟨bm,N,nm,qn,bs,sn,sub,ab,col,dd,k0,k1,k2,k3,k5,mN,oI,hC,hn,hi,T,hfI,hfc⟩:=c;have F:=PySem.F.excBase_ValueError;have f1:=tc_lookup;have f2:=tc_bind (.ref C);have hT:(⟨h,g,d,t,os⟩:Shared).TypeIs (.ref C) "type" := ⟨_,hC,rfl⟩;refine wpAny_call (codeAny_of_tree ?_);show wpAny _ _ (callAny (.ref C) _) _ _ _
 repeat (any_goals (first | assumption | with_reducible refine wpAny_loadPart_at hC ?_ | wp_step))
 refine⟨rfl,codeAny_call_builtin_at (Code.quiet_builtin _ (by decide +kernel)) entry_typeCall (wpAny_check_type_call_sub hC ?_)⟩
 repeat (first | with_reducible refine wpAny_loadPart_at hC ?_ | with_reducible refine wpAny_madeBy_exc hC ?_ | wp_step)
 refine codeAny_call_builtin_code (Code.quiet_builtin _ F.quiet) (wpAny_check_new_subT F T hC (codeAny_exc_new_subT F T hC ?_ hrest));show wpAny _ _ _ _ _ ⟨(h.push { cls:=.type "tuple",data:=.seq rest.toArray }).push { cls:=.ref C,data:=.fields #[.ref h.objs.size,.none,.none,.none,.bool false,.none] },g,d,t,os⟩;generalize hh2:(h.push { cls:=.type "tuple",data:=.seq rest.toArray }).push { cls:=.ref C,data:=.fields #[.ref h.objs.size,.none,.none,.none,.bool false,.none] }=h2
 have k2:∀ b o,h.get? b=some o->h2.get? b=some o:=fun b o e=>by rw[<-hh2];exact j5 _ (j5 _ e)
 have hget:h2.get? (h.objs.size+1)=some { cls:=.ref C,data:=.fields #[.ref h.objs.size,.none,.none,.none,.bool false,.none] }:=by rw[<-hh2];heap_get
 have htup:h2.get? h.objs.size=some { cls:=.type "tuple",data:=.seq rest.toArray }:=by rw[<-hh2];exact j5 _ (Heap.get?_push_at rfl rfl)
 have hcC:(Value.ref C::bm).contains (.ref C)=true:=by simp
 have hC2:=k2 _ _ hC;unfold isInstance
 repeat (first | with_reducible refine wpAny_loadPart_at hget ?_ | (with_reducible refine wpAny_isSubtype_exc hC2 ?_;rw[hcC]) | wp_step)
 show wpAny _ _ (typeLookup (.ref C) _) _ _ _;refine wpAny_typeLookup_tail hC2 (hn.keeps k2) (T.keeps k2) F.mroIs F.init.lookup ?_;rw[hi];refine wpAny_holding (wpAny_bind ?_);unfold bindSpecial;refine wpAny_bind (wpAny_typeOf (T := "function") ⟨_,k2 _ _ hfI,hfc⟩ ?_);rw[if_pos (by decide)];refine wpAny_pure (wpAny_bind (wpAny_mono (hq _ (h.objs.size+1) ⟨k2,Heap.get?_none_of_le (Nat.le_succ _),h.objs.size,hget,Heap.get?_none_of_le (bM _),htup⟩) (fun r s' hr=>?_) fun _ _ x=>x));obtain⟨rfl,hQ⟩:=hr
 wp_walk
 exact hQ
end
section
variable{M:Model}{A:Around}{E:Value->Shared->Prop}{env:Env}{C fI:Addr}
theorem HN{s:Shared}{x:Sem Value}{Q:Flow->Shared->Prop}(hh:A.handled=none)
  (h:wpAny M A x (fun v s₁ => ∃ e oe vs,v = .ref e/\GK s₁.heap C fI/\s₁.heap.get? e=some oe/\oe.cls = .ref C/\oe.data = .fields vs/\vs[1]? = some .none/\E (.ref e) s₁) E s) :
  wpAny M A (raiseStmt env (some x) none) Q E s:=by
 unfold raiseStmt;refine wpAny_bind (wpAny_mono h (fun v s₁ h₁=>?_) fun _ _ x=>x);obtain⟨e,oe,vs,rfl,⟨bm,N,nm,qn,bs,sn,sub,ab,col,dd,k0,k1,k2,k3,k5,mN,oI,hC,hn,hi,T,hfI,hfc⟩,he,hc,hd,h1,hE⟩:=h₁
 have hcB:(Value.ref C::bm).contains (.type "BaseException")=true:=by rw[List.contains_cons,T.hasType PySem.F.excBase_ValueError.hasBase,Bool.or_true]
 obtain⟨hp,g,d,tk,os⟩:=s₁;obtain⟨c1,d1,dt,sl⟩:=oe;simp only at hc hd;subst hc hd;have fld:∀ {Q':Value->Shared->Prop},Q' .none ⟨hp,g,d,tk,os⟩->wpAny M A (field (.ref e) 1) Q' E ⟨hp,g,d,tk,os⟩:=fun z=>wpAny_field he rfl h1 z
 repeat (first | with_reducible refine wpAny_loadPart_at he ?_ | with_reducible refine wpAny_loadPart_at hC ?_ | (with_reducible refine wpAny_isSubtype_exc hC ?_;rw[hcB]) | with_reducible refine fld ?_ | wp_step)
 exact wpAny_raiseNew_none hh hE
end
noncomputable def Z8(e C:Addr)(dd:Option Addr)(h:Heap):Prop:=∃ t0:Addr,h.get? e=some { cls:=.ref C,dict:=dd,data:=.fields #[.ref t0,.none,.none,.none,.bool false,.none] }
noncomputable def uN(e C:Addr)(dd:Option Addr):HO:=.ext (Z8 e C dd)
theorem Bg{P:Program}{w:World}{H:Hp}{h:Heap}{e C:Addr}{dd:Option Addr}(x:Z8 e C dd h):bL P w H h e (uN e C dd):=
 ⟨x,let ⟨_,q⟩:=x;⟨_,q⟩,fun _ _ ⟨t0,q⟩ k=>⟨t0,k _ q⟩⟩
section
variable{X:Cx}{pins:List (Addr×Obj)}{σ:St}{H:Hp}{s:Shared}
theorem Inv.laidN{a:Addr}{o:HO}{h':Heap}{t':Nat}(I:Inv X pins σ H s)(k:∀ b u,s.heap.get? b=some u->h'.get? b=some u)(hp:s.heap.get? a=none)(new:bL X.prog X.w (upd H a o) h' a o) :
  Inv X pins σ (upd H a o) { s with heap:=h',toks:=t' }:=by
 have hn:H a=none:=I.Qn hp;refine I.un ⟨fun b u q _ _ _=>k b u q,fun b u q _ _ _=>⟨u.slots,k b u q⟩,fun b u q n _=>?_,fun b u q _=>⟨u,k b u q⟩,fun b xs q=>?_,fun b u xs q=>?_,fun b ps q=>⟨#[],?_⟩⟩ fun b u q=>?_
 ·rw[zQ (fun z=>by subst z;rw[hp]at q;cases q)];exact n
 ·rw[zQ (zM q hn)];exact q
 ·rw[zQ (zM q hn)];exact q
 ·rw[zQ (zM q hn),q];simp
 ·by_cases hb:b=a
  ·subst hb;rw[zC]at q
   cases q
   exact new
  ·rw[zQ hb]at q
   exact (I.hok b u q).stay (fun c v _ z=>k c v z) (fun c z=>by rw[zQ (zM z hn)];exact z) fun c xs z=>by rw[zQ (zM z hn)];exact z
end
noncomputable def Tn(C:Addr)(sp:Sp)(lu:List V)(E:XK)(t:TA):TS:=fun _ σ H=>t σ H fun vs H1=>vs.length<=sizeLine/\∀ e,H1 e=none →
 sp (.ref e::(vs++lu)) (upd H1 e (uN e C none)) (fun v H2=>v = .non/\∃ dd,H2 e=some (uN e C dd)/\E (.ref C) dd (del H2 e)) E0
theorem Lz{X:Cx}{k:Nat}{C fI:Addr}{fd:FuncData}{ps:List Str}{sp:Sp}{lu:List V}{ds:List Value}{x:Str}{np cpos pos:Pos}{e0:Expr}{rest:List Expr}{t:TA}{E:XK}(hx:SQ X E)(hc:X.calm=true)(hg:Gl X x)
  (hm:X.mg x=some (.ref C)) (hC:pM X.K C fI=true) (hk:keepIn X.K (.ref C)=true) (F:aM X.prog X.w X.K X.mg X.base (ou X.prog X.w) k fI fd ps sp) (hr:eF (k+1) X.A) (hb:Binds X.K fd ps ds) (hd:Vals lu ds)
  (ha:PA X (e0::rest) t) (hex:X.ex=[]:=by rfl) (hdb:(x==("__debug__" : Str))=false:=by decide)
  (he:starEach (e0::rest) X.env=(false,eval e0 X.env)::starEach rest X.env:=by rfl) (hpl:(backTo cpos (starEach rest X.env)).any (·.1)=false:=by rfl) :
  PS X (.Raise (some (.Call (.Name x np) (e0::rest) [] cpos)) none pos) (Tn C sp lu E t):=by
 intro pins s σ H D I h;rw[arm_exec_Raise];simp only[evalOpt,Option.map];refine wpAny_bind (wpAny_standAt (HN (C:=C) (fI:=fI) (I.ok.hd hc) (wpAny_bind (wpAny_mono ?_ (fun v s₃ h₃=>wpAny_bind (wpAny_standAt (wpAny_pure h₃))) fun _ _ x=>x))));refine wpAny_Call_Name_kw (oG I hg hm ?_ hdb);refine callWith_K (h₀:=X.base) I.ok.mod.YQ hk (au (ha cpos pins s σ H _ I h) fun us s1 ⟨vs,H1,I1,r,q1,q⟩=>⟨I1.lq,?_⟩) he hpl;obtain⟨hh,g,d,tk,os⟩:=s1;refine Ng (GK.of hC I1.lq) (by rw[List.nil_append,<-r.length];exact q1) fun h' e hm=>?_;obtain⟨t0,z1,_,_⟩:=hm.there;have hH:H1 e=none:=I1.Qn hm.new;have I2:=I1.laidN (o:=uN e C none) (t':=tk) hm.keeps hm.new (Bg ⟨t0,z1⟩);have hq:=q e hH;have r2:Vals (V.ref e::(vs++lu)) (Value.ref e::(us++ds)):=.cons rfl (r.append hd)
 have hl:(Value.ref e::us++ds).length=ps.length:=by
  have z:=r2.length;rw[F.len _ _ _ _ hq]at z;exact z.symm
 refine wpAny_call (codeAny_mono (F.run _ X.stack _ _ ⟨Value.ref e::us,[]⟩ (Value.ref e::(us++ds)) _ _ E0 (hr.make C us []) (I2.env0.make C us []) (hb _ (Value.ref e::us) I2.lq hl) r2 hq) fun r s' z=>?_)
 cases r with
 | error e=>obtain⟨_,_,_,_,_,_,_,_,_,_,_,_,_,_,_,y⟩:=z;exact y.elim
 | ok fl=>
  cases fl with
  | ret u=>
   obtain⟨v,H',I3,rv,ev,dd,y1,y2⟩:=I2.after z;subst ev;obtain⟨⟨t1,y3⟩,_⟩:=I3.hok e _ y1;exact⟨rv,e,_,_,rfl,GK.of hC I3.lq,y3,rfl,rfl,rfl,hx pins σ H' s' e C (.ref t1) _ _ I3 (I1.qB5 hex hm.new) (.inr ⟨_,y1⟩) y3 rfl rfl rfl rfl y2⟩
  | next=>exact False.elim z
  | brk=>exact False.elim z
  | cont=>exact False.elim z
section
variable{prog:Program}{w:World}{A:Around}{E:Value->Shared->Prop}{s:Shared}{C fI e t0:Addr}{dd:Option Addr}
theorem Ni{rest:List Value}{Q:Value->Shared->Prop}(c:GK s.heap C fI)(he:s.heap.get? e=some { cls:=.ref C,dict:=dd,data:=.fields #[.ref t0,.none,.none,.none,.bool false,.none] })(hrest:rest.length<=sizeLine)
  (h:∀ h',Z8 e C dd h'->(∀ b o,b≠e->s.heap.get? b=some o->h'.get? b=some o)->Q .none { s with heap:=h' }):wpAny (model prog w) A (call (.builtin "ValueError.__init__") (.ref e::rest)) Q E s:=by
 obtain⟨bm,N,nm,qn,bs,sn,sub,ab,col,d1,k0,k1,k2,k3,k5,mN,oI,hC,hn,hi,T,hfI,hfc⟩:=c;have F:=PySem.F.excBase_ValueError;obtain⟨hp,g,d,tk,os⟩:=s;refine wpAny_call (codeAny_call_builtin F.init.plain F.initEntry (wpAny_check_init_subT F T hC he rfl ?_));unfold Builtin.«BaseException.__init__»
 dsimp only
 rw[if_neg (by simp)];unfold newTuple Builtin.BaseException.bexcPut;have Km:=j5 (h:=hp) { cls:=.type "tuple",data:=.seq rest.toArray } he;refine wpAny_bind (wpAny_newObj_type (wpAny_bind (wpAny_bind (wpAny_field Km rfl rfl (wpAny_bind (wpAny_setField Km rfl (by show 0<6;decide) ?_))))) (by show rest.toArray.size<=sizeLine;rw[xf];exact hrest));refine wpAny_letGo (wpAny_pure (h _ ⟨hp.objs.size,?_⟩ fun b o hb ho=>?_))
 ·rw[Heap.get?_update_self _ Km rfl];rfl
 ·rw[Heap.get?_update_other _ _ (Ne.symm hb)];exact j5 _ ho
end
noncomputable def tBase(K:Frag)(t:TA):TS:=fun D σ H=>t σ H fun vs H1 => ∃ e C fI dd xs,vs = .ref e::xs/\xs.length<=sizeLine/\pM K C fI=true/\H1 e=some (uN e C dd)/\D.nx σ (upd H1 e (uN e C dd))
theorem Ug{X:Cx}{B:Addr}{x:Str}{np ap cpos pos:Pos}{e0:Expr}{rest:List Expr}{t:TA}{pl:Sem Bool}(hg:Gl X x)(hm:X.mg x=some (.ref B))(hsp:specialIn X.K (.ref B) "__getattribute__" = some (some (.builtin "type.__getattribute__")))
  (hrd:readsIn X.K B (.type "type")=true) (hf:findCls X.K (.ref B) (.type "type") "__init__" = some (.val (.builtin "ValueError.__init__"))) (ha:PA X (e0::rest) t) (hdb:(x==("__debug__" : Str))=false:=by decide)
  (he:starEach (e0::rest) X.env=(false,eval e0 X.env)::starEach rest X.env:=by rfl) (hpl:(backTo cpos (starEach rest X.env)).any (·.1)=false:=by rfl)
  (ht:eval (.Call (.Attribute (.Name x np) "__init__" ap) (e0::rest) [] cpos) X.env=(do
   let ov ← eval (.Name x np) X.env
   standAt ap.atName
   let (f,first) ← holding [ov] (getMethod ov "__init__" pl)
   callWith cpos f first (backTo cpos (starEach (e0::rest) X.env)) (backToKw cpos (keywordEach [] X.env))):=by rfl)
  (hs:swapsWith (.Call (.Attribute (.Name x np) "__init__" ap) (e0::rest) [] cpos) none pos.line X.env=pure false:=by rfl) :
  PS X (.Expr (.Call (.Attribute (.Name x np) "__init__" ap) (e0::rest) [] cpos) pos) (tBase X.K t):=by
 intro pins s σ H D I h;refine wpAny_Expr_any (Q:=SP X pins D) ?_ I.quiet hs;refine methodCall_KW (pl:=pl) (oG I hg hm ?_ hdb) ht;refine method_cls I.lq hsp (cls_value I.lq hrd hf rfl ?_);refine callWith_builtin1 (au (ha cpos pins _ σ H _ (I.tok _) h) fun us s1 ⟨vs,H1,I1,r,z⟩=>?_) he hpl;obtain⟨e,C,fI,dd,xs,rfl,q1,q2,q3,q4⟩:=z
 obtain⟨u,ws,rfl,r1,r2⟩:∃ u ws,us=u::ws/\RelV (.ref e) u/\Vals xs ws:=by
  cases r with
  | cons a b=>exact⟨_,_,rfl,a,b⟩
 cases (show u=Value.ref e from r1)
 obtain⟨⟨t0,y⟩,_⟩:=I1.hok e _ q3;refine Ni (GK.of q2 I1.lq) y (by rw[<-r2.length];exact q1) fun h' nx k=>?_;exact⟨σ,_,I1.write (x:=e) (e:=e) (t':=s1.toks) (by rw[q3];exact True.intro) (.inl rfl) k (let ⟨_,z⟩:=nx;⟨_,z⟩) (Bg nx),q4⟩
end L2
namespace L2
open PySem PySem.Spec PyProof.Rows PySem.W
open Builtin Builtin.ObjectAttr
noncomputable def QK:List Value->Bool
 | .ref _::r=>QK r
 | l=>l==VB
theorem tu(self:Value):∀ {l:List Value},QK l=true->refuseLoop self "__setattr__" l=pure ()
 | .ref c::r,e=>by rw[refuseLoop_ref];exact tu self (l:=r) e
 | [],e=>by cases e
 | .none::r,e=>by cases e
 | .bool b::r,e=>by cases e
 | .int i t::r,e=>by cases e
 | .float _ _::r,e=>by cases e
 | .str _ _::r,e=>by cases e
 | .type n::r,e=>by
  rw[show (Value.type n::r)=VB from beq_iff_eq.mp e];exact PySem.F.store_ValueError.passes self
 | .builtin n::r,e=>by cases e
 | .notImplemented::r,e=>by cases e
 | .ellipsis::r,e=>by cases e
structure Vy(K:Frag)(C:Addr)(f:Str):Prop where
 sa:findIn K (.ref C) "__setattr__" = some (some (.builtin "object.__setattr__"))
 no:findIn K (.ref C) f=some none
 ok:((clsIn K C).any fun cd=>QK cd.mro&&cd.hasDict)=true
 ob:mroIn K C (.type "object")=some true
section
variable{prog:Program}{w:World}{A:Around}{E:Value->Shared->Prop}{s:Shared}{K:Frag}{e C:Addr}{f:Str}{v:Value}{vs:Array Value}
theorem U0{Q:Unit->Shared->Prop}(X:K.In s.heap)(q:Vy K C f)(he:s.heap.get? e=some { cls:=.ref C,dict:=none,data:=.fields vs })
  (h:∀ h' t',h'.get? e=some { cls:=.ref C,dict:=some s.heap.objs.size,data:=.fields vs }->h'.Ns1 s.heap.objs.size (fun y=>if y=f then some v else none)->(∀ b o,b≠e->s.heap.get? b=some o->h'.get? b=some o) →
   Q () { s with heap:=h',toks:=t' }):wpAny (model prog w) A (setAttr (.ref e) f v) Q E s:=by
 have I:InstAt s.heap e { cls:=.ref C,dict:=none,data:=.fields vs } C none:=⟨he,rfl,rfl,True.intro⟩;refine set_plain X I q.sa ?_;have SF:=PySem.F.store_object;obtain⟨cd,hc,ho⟩:=any_some q.ok;obtain⟨hp,hd⟩:=Bool.and_eq_true_iff.mp ho;have sub:Looks (model prog w) s.heap (isInstance (.ref e) (.type "object")) true:=I.type.andThen (looks_mroIn X q.ob);refine codeAny_call_builtin SF.slot.plain SF.entry (@check_slot (model prog w) _ _ { s with toks:=s.toks+1 } "object.__setattr__" "object" "__setattr__" (.ref e) [.str f s.toks,v] [] _ SF.kind SF.split sub (SF.args (.ref e) (.str f s.toks) v) ?_);have hm:Looks (model prog w) s.heap (mroOf (.ref C)) cd.mro:=(looks_clsIn X hc).andThen .now;rw[osa_eq,refuse_eq];refine wpAny_bind (wpAny_bind (Looks.here (s:={ s with toks:=s.toks+1 }) I.type (wpAny_bind (Looks.here (s:={ s with toks:=s.toks+1 }) hm ?_))));rw[tu _ hp];refine wpAny_pure (wpAny_bind (Looks.here (s:={ s with toks:=s.toks+1 }) I.type (wpAny_bind (Looks.here (s:={ s with toks:=s.toks+1 }) (looks_findIn X q.no) (wpAny_bind (wpAny_pure ?_))))));show wpAny _ _ (storeInOwnDict (.ref e) (.ref C) (.str f s.toks) f v false) _ _ _;refine wpAny_bind (wpAny_pure (wpAny_bind (wpAny_bind (wpAny_loadPart he (wpAny_bind (Looks.here (s:={ s with toks:=s.toks+1 }) (looks_clsIn X hc) ?_))))));rw[hd];have hxs:e≠s.heap.objs.size:=kI (gP he);have Km:(s.heap.push { cls:=.type "dict",data:=.dict #[] }).get? e=some { cls:=.ref C,dict:=none,data:=.fields vs }:=j5 _ he;refine wpAny_bind (wpAny_alloc' (wpAny_bind (wpAny_update' Km (wpAny_pure ?_))))
 have e2:((s.heap.push { cls:=.type "dict",data:=.dict #[] }).update e fun o=>{ cls:=o.cls,dict:=some s.heap.objs.size,data:=o.data,slots:=o.slots }).get? s.heap.objs.size=some { cls:=.type "dict",data:=.dict #[] }:=
  (Heap.get?_update_ne _ _ _ _ hxs.symm).trans (Heap.get?_push_at rfl rfl)
 have e3:((s.heap.push { cls:=.type "dict",data:=.dict #[] }).update e fun o=>{ cls:=o.cls,dict:=some s.heap.objs.size,data:=o.data,slots:=o.slots }).get? e=some { cls:=.ref C,dict:=some s.heap.objs.size,data:=.fields vs }:=
  Heap.get?_update_self _ Km rfl
 have hnd:((s.heap.push { cls:=.type "dict",data:=.dict #[] }).update e fun o=>{ cls:=o.cls,dict:=some s.heap.objs.size,data:=o.data,slots:=o.slots }).Ns s.heap.objs.size (fun _=>none):=
  ⟨_,#[],_,e2,rfl,fun e he=>absurd he (by simp),fun _=>rfl⟩
 refine wpAny_bind (wpAny_pure (wpAny_bind ?_));refine wpAny_nsSet1 (Heap.Ns1.of_empty hnd) fun h' hn' hs=>?_;obtain⟨oD,esD,epD,hoD,hdD,hcD⟩:=hn'.count (Within.cons f v Within.nil);refine wpAny_bind (wpAny_lookBehind hoD (by rw[hdD];exact pastItsLine_dict (Nat.le_trans hcD (by rw[dz,List.length_nil,sizeLine_eq];lia))) ?_);refine wpAny_pure (h h' _ ((hs.2 e hxs).trans e3) hn' fun b o hb ho=>?_);exact (hs.2 b (kI (gP ho))).trans ((Heap.get?_update_ne _ _ _ _ hb).trans (j5 _ ho))
end
section
variable{prog:Program}{w:World}{A:Around}{E:Value->Shared->Prop}{K:Frag}{a C dx:Addr}{f:Str}{v:Value}{o:Obj}{mA:Str->Option Value}
end
noncomputable def qAQ(K:Frag)(ta tv:TE)(f:Str):TS:=fun D σ H=>tv σ H fun y H1=>ta σ H1 fun x H2 => ∃ e C,x = .ref e/\H2 e=some (uN e C none)/\Vy K C f/\∀ dx,H2 dx=none->dx≠e->D.nx σ (upd (upd H2 dx (.xd [(f,y)])) e (uN e C (some dx)))
section
variable{X:Cx}{e o value:Expr}{ta tv:TE}{f:Str}{pos pos':Pos}
theorem Ud(ha:PE X o ta)(hv:PE X value tv)(hs:swapsWith value (some (.Attribute o f pos')) pos.line X.env=pure false):PS X (.Assign [.Attribute o f pos'] value pos) (qAQ X.K ta tv f):=by
 intro pins s σ H D I h;refine plainObj_wpAny_Assign_Attribute (au (hv pins s σ H _ I h) fun u s1 ⟨y,H1,I1,ry,q⟩=>au (ha pins s1 σ H1 _ I1 q) fun ov s2 hz_=>?_) hs;refine aJ fun G_ g_=>?_;obtain⟨x,H2,I2,rx,e,C,ex,ea,n,q2⟩:=hz_;apply g_;clear g_ G_;subst ex;obtain rfl:ov=Value.ref e:=rx;obtain⟨⟨t0,z⟩,_⟩:=I2.hok e _ ea;have hf:H2 s2.heap.objs.size=none:=I2.fresh;have ne:s2.heap.objs.size≠e:=Nat.ne_of_gt (gP z);refine U0 I2.lq n z fun h' t' z1 z2 z3=>⟨σ,_,?_,q2 _ hf ne⟩;have d1:∃ ob,h'.get? s2.heap.objs.size=some ob:=let ⟨ob,_,_,e,_⟩:=z2;⟨ob,e⟩;have hnew:s2.heap.get? s2.heap.objs.size=none:=Heap.get?_none_of_le (bM _);refine I2.un ⟨fun b u q n _ _=>z3 b u (fun y=>by subst y;rw[n]at ea;cases ea) q,fun b u q n _ _=>⟨u.slots,z3 b u (fun y=>by subst y;rw[n]at ea;cases ea) q⟩,fun b u q n _=>?_,fun b u q _=>?_,fun b xs q=>?_,fun b u xs q=>?_,fun b ps q=>⟨#[],?_⟩⟩ fun b u q=>?_
 ·rw[zQ (fun y=>by subst y;rw[n]at ea;cases ea),zQ (fun y=>by subst y;rw[hnew]at q;cases q)];exact n
 ·by_cases hb:b=e
  ·subst hb;exact⟨_,z1⟩
  ·exact⟨u,z3 b u hb q⟩
 ·rw[zQ (bz q ea nofun),zQ (zM q hf)];exact q
 ·rw[zQ (bz q ea nofun),zQ (zM q hf)];exact q
 ·rw[zQ (bz q ea nofun),zQ (zM q hf),q];simp
 ·by_cases hb:b=e
  ·subst hb;rw[zC]at q
   cases q
   exact Bg ⟨t0,z1⟩
  ·rw[zQ hb]at q
   by_cases hx:b=s2.heap.objs.size
   ·subst hx;rw[zC]at q
    cases q
    refine⟨_,z2,fun y=>?_⟩
    by_cases k:y=f
    ·subst k;show lg (List.lookup y [(y,_)]) (if y=y then some u else none);rw[if_pos rfl,List.lookup_cons_self];exact ry
    ·show lg (List.lookup y [(f,_)]) (if y=f then some u else none)
     have z5:(y==f)=false:=by simpa using k
     rw[if_neg k,List.lookup_cons,z5];exact True.intro
   ·rw[zQ hx]at q;refine (I2.hok b u q).stay (fun c v hc y=>z3 c v (fun k=>?_) y) (fun c y=>?_) fun c xs y=>?_
    ·rcases hc with k2 | k2
     ·exact hb (k2.symm.trans k)
     ·rw[k,ea]at k2;cases k2
    ·rw[zQ (bz y ea nofun),zQ (zM y hf)];exact y
    ·rw[zQ (bz y ea nofun),zQ (zM y hf)];exact y
end
end L2
namespace L2
open PySem PySem.Spec PyProof.Rows
section
variable{M:Model}{A:Around}{E:Value->Shared->Prop}{s:Shared}{base:Heap}{env:Env}{outer:List Env}{L e:Addr}{cls a0 fl:Value}{dd:Option Addr}{Q:Unit->Shared->Prop}
theorem Mj(hfr:A.frames=some (env::outer))(hf:env.frame=some L)(hkb:base.StaysIn s.heap)(hb:base.get? e=none)(hl:s.heap.FunFrames base (env::outer))(ht:s.heap.TracedAtW base e cls a0 fl)(x:DictAt s.heap e dd)
  (hQ:∀ h',Heap.FlyingW base outer e cls a0 h'->s.heap.UpToSlots h'->DictAt h' e dd->Q () { s with heap:=h' }):wpAny M A (leaving env (.ref e)) Q E s:=by
 by_cases hfl:fl=rawInt L
 ·subst hfl;unfold leaving;refine wpAny_bind (wpAny_noteFrame_againW hf ht (YH ⟨hkb,hb,hl,ht⟩ x fun h' ⟨k1,k2,⟨_,_,k3⟩,k4⟩ sl dk=>hQ h' ⟨k1,k2,k3,k4⟩ sl dk))
 ·obtain⟨oe,vs,T,oT,ts,he,⟨hc,h0⟩,hd,h1,hnT,hTe,hT,hdT,h3⟩:=ht;subst hc;unfold leaving noteFrame;simp only[hf];refine wpAny_bind (wpAny_bind (wpAny_field he hd h1 ?_));rw[if_pos (show (Value.ref T != Value.none)=true by simp)];refine wpAny_bind (wpAny_field hT hdT h3 ?_);rw[if_neg (show ¬ ((fl==rawInt L)=true) by simpa using hfl)];refine wpAny_bind (wpAny_setField hT hdT (Array.getElem?_eq_some_iff.mp h3).1 ?_);have other:∀ b,b≠T->(s.heap.update T (Obj.mapFields (·.setIfInBounds 3 Value.none))).get? b=s.heap.get? b:=fun b z=>Heap.get?_update_other _ _ (Ne.symm z)
  have Ej:∀ b o,s.heap.get? b=some o->(∀ vs,o.data≠.fields vs)->b≠T:=fun b o z1 z2 z=>by
   subst z;rw[hT]at z1
   cases z1
   exact z2 ts hdT
  have hl1:(s.heap.update T (Obj.mapFields (·.setIfInBounds 3 Value.none))).FunFrames base (env::outer):=hl.of_keeps fun b o z1 z2=>⟨o,(other b (Ej b o z1 z2)).trans z1,rfl⟩;have Km:=(other e (Ne.symm hTe)).trans he;have x1:DictAt (s.heap.update T (Obj.mapFields (·.setIfInBounds 3 Value.none))) e dd:=x.upd hT hdT;have hsz:=(Array.getElem?_eq_some_iff.mp h1).1
  refine wpAny_mono (dj (wpAny_newEntryW (s:={ s with heap:=s.heap.update T (Obj.mapFields (·.setIfInBounds 3 Value.none)) }) (Q:=fun _ s'=>∃ h',s' = { s with heap:=h' }/\Heap.LeftW base (env::outer) e oe.cls a0 (s.heap.update T (Obj.mapFields (·.setIfInBounds 3 Value.none))) h') hfr hl1 hf Km
   (fun b o z=>(other b fun q=>by rw[q,hnT]at z;cases z).trans (hkb b o z)) hb hd hsz h0 fun h' k=>⟨h',rfl,k⟩)
   (lJ (s:={ s with heap:=s.heap.update T (Obj.mapFields (·.setIfInBounds 3 Value.none)) }) (Q:=fun _ s'=>wpAny M A (setFlight (.ref e) none) (fun _ s2=>DictAt s2.heap e dd) E s') hfr hl1 hf Km hd hsz x1 fun h2 T2 oT2 ts2 y1 ⟨oe',vs',q1,q2,q3⟩ q4 q5 q6=>?_))
   (fun _ s2 z=>wpAny_mono (dj z.1 z.2) (fun _ s3 ⟨⟨h',y,k1,⟨_,_,k2⟩,k3,k4⟩,k5⟩=>by subst y;exact hQ h' ⟨k1,hb,k2,k3⟩ (fun b o z1 z2=>k4 b o ((other b (Ej b o z1 z2)).trans z1) z2) k5) fun _ _ y=>y) fun _ _ y=>y
  unfold setFlight;refine wpAny_bind (wpAny_field q1 q2 q3 ?_);rw[if_pos (show (Value.ref T2 != Value.none)=true by simp)];exact wpAny_setField q4 q5 q6 (y1.upd q4 q5)
end
noncomputable def rF(X:Cx)(E:XK):Prop:=∀(pins:List (Addr×Obj))(σ:St)(H1:Hp)(s1:Shared)(ea:Addr)(cls a0 fl:Value)(dd:Option Addr)(H':Hp)(B:Heap)(s':Shared),Inv X pins σ H1 s1->s'.os=X.s₀.os->AllBare s'.gens →
 B.StaysIn s'.heap->B.get? ea=none->s'.heap.FunFrames B X.stack->s'.heap.TracedAtW B ea cls a0 fl->j6 X.prog X.w H' s'.heap->Un (frs X.outer) [] X.H₀ H' X.s₀.heap s'.heap->(∀ b,(H' b).isSome=true->∃ o,s'.heap.get? b=some o/\B.get? b=some o) →
 (∀ b o,X.s₀.heap.get? b=some o->b∉frs X.outer->∃ o',s'.heap.get? b=some o'/\B.get? b=some o')->DictAt s'.heap ea dd->E cls dd H'->X.xe (.ref ea) s'
section
variable{P:Program}{w:World}{K:bO}{mg:Str->Option Value}{base:Heap}{N:List Str}{qual:Str}{scope:Scope}{f:Addr}{cd:Value}{A:Around}{outer:List Env}{s:Shared}{H:Hp}{E E':XK}
theorem WN(hE:∀ c d H,E' c d H->E c d H):rF (oU (ou P w) P w K mg base N qual scope f cd A outer s H E) E':=by
 intro pins σ H1 s1 ea cls a0 fl dd H' B s' I ho hg st hb hl ht hok un hB hC hdd hq;show wpAny _ _ (leaving _ (.ref ea)) _ _ s';refine Mj (L:=s.heap.objs.size) I.ok.frames rfl st hb hl ht hdd fun h' Cq sl dk=>?_;refine⟨ea,cls,a0,H',B,rfl,ho,hg,Cq,hok.flown hB Cq.1,un.flown hC Cq.1 sl I.pJ,fun b hb=>?_,fun b ob q hb=>?_,dd,dk,hE _ _ _ hq⟩
 ·obtain⟨ob,_,e2⟩:=hB b hb;exact⟨ob,Cq.1 b _ e2,e2⟩
 ·obtain⟨o',_,e2⟩:=hC b ob q hb;exact⟨o',Cq.1 b _ e2,e2⟩
end
section
variable{X:Cx}{pins:List (Addr×Obj)}{σ:St}{H2:Hp}{s2:Shared}{C:Addr}{m:Str->Option Value}{sc:Scope}{cl:List (Str×Addr)}{EX:XK}
theorem Ry{Qv:Value->Shared->Prop}{use:Option (Value->Sem Unit)}{acc e:Value}{s':Shared}(hp:rF X EX)(hex:X.ex=[])(I:Inv X pins σ H2 s2)(hn:s2.heap.Ns C m)(hC:H2 C=none)(hCs:C∉frs X.stack)(We:X.s₀.heap.get? C=none)
  (hst:X.stack=X.env::X.outer) (hfr:X.env.frame=some X.env.locals)
  (h:ou X.prog X.w X.stack H2 s2 EX e s'):notedBy (model X.prog X.w) X.A (compEnvC sc cl C X.env) (fun e s3=>compPost (model X.prog X.w) X.A X.xe use Qv acc C (.error e) s3) e s':=by
 obtain⟨ea,cls,a0,H',B,rfl,ho,hgn,fl,hok,un,hB,hCc,dd,hdd,hq⟩:=h;have RM:=I.ok.frames;rw[hst]at fl RM;show wpAny _ _ (noteFrame (.ref ea) X.env) _ _ s';refine Mf RM hfr fl hdd fun h4 Kl sl4 dk4=>?_;obtain⟨oC,esC,epC,gC,rC⟩:=id hn
 have bC:B.get? C=some oC:=by
  obtain⟨o',z1,z2⟩:=hCc C oC gC hCs;rw[un.keep C oC gC hC hCs (by simp)]at z1
  cases z1
  exact z2
 have hC1:H' C=none:=un.free C oC gC hC (by simp);refine⟨m,⟨oC,esC,epC,Kl.1 _ _ bC,rC⟩,fun h5 sb cenv _=>?_⟩;obtain⟨k1,k2,k3,oe,vs,T,oT,ts,he,hcl,hd,h1,hnT,hTe,hT,hdT,h3⟩:=Kl
 have ZW:ea≠C:=fun z=>by rw[z,bC]at k2;cases k2
 have nTC:T≠C:=fun z=>by rw[z,bC]at hnT;cases hnT
 have e5:h5.get? ea=some oe:=(sb.2 ea ZW).trans he;have T5:h5.get? T=some oT:=(sb.2 T nTC).trans hT;have sz3:=(Array.getElem?_eq_some_iff.mp h3).1;unfold PySem.passOn;refine wpAny_bind (wpAny_field e5 hd h1 ?_);rw[if_neg (show ¬ ((Value.ref T==Value.none)=true) by simp)];refine wpAny_bind (m:=setFlight (.ref ea) cenv.frame) ?_;unfold setFlight;refine wpAny_bind (wpAny_field e5 hd h1 ?_);rw[if_pos (show (Value.ref T != Value.none)=true by simp)];refine wpAny_setField T5 hdT sz3 (wpAny_throw ?_);generalize hfv:(cenv.frame.elim Value.none fun f=>rawInt f)=fv;generalize hh6:h5.update T (Obj.mapFields (·.setIfInBounds 3 fv))=h6
 have o6:∀ b,b≠T->h6.get? b=h5.get? b:=fun b z=>by rw[<-hh6];exact Heap.get?_update_other _ _ (Ne.symm z)
 have T6:h6.get? T=some (oT.mapFields (·.setIfInBounds 3 fv)):=by rw[<-hh6];exact Heap.get?_update_self _ T5 (Obj.isFreed_of_fields (Obj.data_mapFields hdT _))
 have e6:h6.get? ea=some oe:=(o6 ea (Ne.symm hTe)).trans e5;have J3:=I.call' ho un hok hgn (fun _ z=>nomatch z);have xM:∀ b o,B.get? b=some o->b≠C->h6.get? b=some o:=fun b o z1 z2=>(o6 b (fun y=>by rw[y,hnT]at z1;cases z1)).trans ((sb.2 b z2).trans (k1 b o z1));have gB:∀ b o,B.get? b=some o->b≠C->(PySem.W.hideAll B [C]).get? b=some o:=fun b o z1 z2=>PySem.W.hideAll_get _ z1 (by simpa using z2)
 have hBn:∀ b,B.get? b=none->(PySem.W.hideAll B [C]).get? b=none:=fun b z=>by
  cases q:(PySem.W.hideAll B [C]).get? b with
  | none=>rfl
  | some o=>have:=PySem.W.of_hideAll _ q;rw[z]at this;cases this
 have nC:∀ b,(PySem.W.hideAll B [C]).get? b≠none->b≠C:=fun b z y=>z (by rw[y];exact PySem.W.hideAll_none _ (by simp))
 have keep6:∀ b o,b≠C->b≠T->s'.heap.get? b=some o->(∀ vs,o.data≠.fields vs)->∃ sl,h6.get? b=some { o with slots:=sl }:=fun b o z1 z2 z3 z4=>by
  obtain⟨sl,y⟩:=sl4 b o z3 z4;exact⟨sl,(o6 b z2).trans ((sb.2 b z1).trans y)⟩
 have noT:∀ b o,h4.get? b=some o->(∀ vs,o.data≠.fields vs)->b≠T:=fun b o z1 z2 z=>by
  subst z;rw[hT]at z1
  cases z1
  exact z2 ts hdT
 have fr6:h6.FunFrames (PySem.W.hideAll B [C]) X.stack:=by
  rw[hst]at hCs ⊢
  have go:∀ l:List Env,C∉frs l->h4.FunFrames B l->h6.FunFrames (PySem.W.hideAll B [C]) l:=by
   intro l
   induction l with
   | nil=>exact fun _ z=>z
   | cons env l ih=>
    intro hc ⟨hcl,⟨L,o,q1,q2,q3,q4⟩,hr⟩;have hne:L≠C:=fun z=>hc (by rw[gG q1,z];exact Cu);refine⟨hcl,⟨L,o,q1,hBn L q2,?_,q4⟩,ih (fun z=>hc (by rw[gG q1];exact GQ _ z)) hr⟩;exact (o6 L (noT L o q3 q4)).trans ((sb.2 L hne).trans q3)
  exact go _ hCs k3
 refine hp pins σ H2 s2 ea cls a0 fv dd H' (PySem.W.hideAll B [C]) { s' with heap:=h6 } I (ho.trans I.os) hgn (fun b o z=>xM b o (PySem.W.of_hideAll _ z) (nC b (by rw[z];simp))) (hBn _ k2) fr6
  ⟨oe,vs,T,_,_,e6,hcl,hd,h1,hBn _ hnT,hTe,T6,Obj.data_mapFields hdT _,by simp [sz3]⟩ ?_ ?_ (fun b z=>?_) (fun b o z1 z2=>?_) ?_ hq
 ·refine hok.flown (B:=PySem.W.hideAll B [C]) (fun b z=>?_) fun b o z=>xM b o (PySem.W.of_hideAll _ z) (nC b (by rw[z];simp));obtain⟨o,y1,y2⟩:=hB b z
  have hne:b≠C:=fun k=>by rw[k,hC1]at z;cases z
  exact⟨o,y1,gB b o y2 hne⟩
 ·have ub:Un (frs X.outer) [] X.H₀ H' X.s₀.heap s'.heap:=by
   have:=J3.base;rw[hex]at this;exact this
  have sub:∀ b,b∈frs X.outer->b∈frs X.stack:=fun b z=>by rw[hst,gG hfr];exact GQ _ z
  have c0:∀ b o,X.s₀.heap.get? b=some o->b≠C:=fun b o z y=>by rw[y,We]at z;cases z
  have slot:∀ b o,X.s₀.heap.get? b=some o->X.H₀ b=none->b∈frs X.outer->∃ sl,h6.get? b=some { o with slots:=sl }:=fun b o z1 z2 z3=>by
   obtain⟨s1,y1⟩:=ub.slot b o z1 z2 z3 (by simp);obtain⟨_,o1,y2,nf⟩:=I.pJ b z3;rw[z1]at y2
   cases y2
   obtain⟨s2,y3⟩:=sl4 b _ y1 nf;have y4:b≠T:=noT b _ y3 nf;exact⟨s2,(o6 b y4).trans ((sb.2 b (c0 b _ z1)).trans y3)⟩
  have old:∀ b o,X.s₀.heap.get? b=some o->b∉frs X.outer->∃ o',s'.heap.get? b=some o'/\B.get? b=some o':=fun b o z1 z2=>by
   obtain⟨o1,y1⟩:=I.base.there b o z1 (by rw[hex];simp);refine hCc b o1 y1 fun y=>?_;rw[hst,gG hfr]at y;rcases bI.mp y with k | k
   ·exact kI (Ai (gP z1) I.ok.above) k
   ·exact z2 k
  refine⟨fun b o z1 z2 z3 z4=>?_,fun b o z1 z2 z3 _=>slot b o z1 z2 z3,ub.free,fun b o z1 _=>?_,ub.tups,ub.tH,ub.uJ⟩
  ·obtain⟨o',y1,y2⟩:=old b o z1 z3;rw[ub.keep b o z1 z2 z3 z4]at y1
   cases y1
   exact xM b _ y2 (c0 b _ z1)
  ·by_cases z3:b∈frs X.outer
   ·obtain⟨_,y⟩:=slot b o z1 (I.pJ b z3).1 z3;exact⟨_,y⟩
   ·obtain⟨o',_,y2⟩:=old b o z1 z3;exact⟨o',xM b _ y2 (c0 b _ z1)⟩
 ·obtain⟨o,y1,y2⟩:=hB b z
  have hne:b≠C:=fun k=>by rw[k,hC1]at z;cases z
  exact⟨o,xM b o y2 hne,gB b o y2 hne⟩
 ·obtain⟨o1,y1⟩:=I.base.there b o z1 (by rw[hex];simp)
  have hne:b≠C:=fun y=>by rw[y,We]at z1;cases z1
  obtain⟨o',_,y2⟩:=hCc b o1 y1 fun y=>by
   rw[hst,gG hfr]at y;rcases bI.mp y with k | k
   ·exact kI (Ai (gP z1) I.ok.above) k
   ·exact z2 k
  exact⟨o',xM b _ y2 hne,gB b _ y2 hne⟩
 ·obtain⟨o1,y1,y2⟩:=dk4;have:h4.get? ea=some o1:=y1;rw[he]at this
  cases this
  exact⟨_,e6,y2⟩
end
section
variable{X:Cx}{elt iter:Expr}{x:Str}{px pos:Pos}{ifs:List Expr}{scope:Scope}{aX:List (Nat×Str)}{wi:TI}{tc:TT}{te:TE}
theorem Fg{EX:XK}{pins:List (Addr×Obj)}{σ:St}{H:Hp}{s:Shared}{E:Value->Shared->Prop}{it:Addr}{fp:List Addr}{tn:Nat->Heap->Prop}{J:It}{Z:List V->Hp->Prop}{RR:Value->Addr->Result->Shared->Prop}
  (hc:X.calm=true) (S:bD X.env.scope X.N scope x aX) (I:Inv X pins σ H s) (T:Turn X.prog X.w X.K (.Name x px) J fp it tn) (st:tn 0 s.heap) (hf:∀ b∈fp,gM X pins H b)
  (wL:∀ C s H ex pn E,Fw (cJ X (x::aX.map (·.2)) scope C s H ex pn E) ifs tc) (helt:∀ C s H ex pn E,Passes (ou X.prog X.w) (cJ X (x::aX.map (·.2)) scope C s H ex pn E) EX->PE (cJ X (x::aX.map (·.2)) scope C s H ex pn E) elt te)
  (hER:∀(D C:Addr)(H2:Hp)(s2:Shared)(m:Str->Option Value)(e:Value)(s':Shared),Inv X pins σ H2 s2->s2.heap.Ns C m->gM X pins H2 C->ou X.prog X.w X.stack H2 s2 EX e s'->notedBy (model X.prog X.w) X.A (compEnvC scope (lZ X.env scope) C X.env) (fun e s'=>RR (.ref D) C (.error e) s') e s')
  (hW:jQ J (tM aX σ) tc te H Z)
  (hRR:∀(s':Shared)(H':Hp)(acc:List V)(its:List Value)(D C:Addr)(m:Str->Option Value),Inv X pins σ H' s'->s'.heap.PlainList D its.toArray->Vals acc its->acc.length<=sizeLine->gM X pins H' D->gM X pins H' C->D≠C->s'.heap.Ns C m->Z acc H'->RR (.ref D) C (.ok .next) s') :
  wpAny (model X.prog X.w) X.A (newList []) (fun acc s₃=>wpAny (model X.prog X.w) X.A (newFunctionEnv scope X.env.globals (lZ X.env scope) [] X.env.qual none .none (some X.env)) (fun cenv s₄=>
   codeAny (model X.prog X.w) X.A (.compStart (.ListComp elt [⟨.Name x px,iter,ifs,0⟩] scope pos) 0 (.ref it) acc { cenv with scope:=relabel scope X.env }) (RR acc cenv.locals) s₄) E s₃) E s:=by
 refine wpAny_newObj_type (wpAny_newFunctionEnv S.yr (by intro y hy;simp at hy) (fun h₁ hns₁ hsb₁=>?_) S.kind)
 dsimp only at hns₁ hsb₁ ⊢
 have Zg:Inv X pins σ H { s with heap:=s.heap.push { cls:=.type "list",dict:=none,data:=.seq ([]:List Value).toArray } }:=I.kept (t':=s.toks) fun b u e=>j5 _ e;have gD3:(s.heap.push { cls:=.type "list",dict:=none,data:=.seq ([]:List Value).toArray }).get? s.heap.objs.size=some { cls:=.type "list",dict:=none,data:=.seq ([]:List Value).toArray }:=xJ _ rfl;have Ii:(s.heap.push { cls:=.type "list",dict:=none,data:=.seq ([]:List Value).toArray }).objs.size=s.heap.objs.size+1:=Heap.size_push _ _;generalize TY:s.heap.push { cls:=.type "list",dict:=none,data:=.seq ([]:List Value).toArray }=h3 at hns₁ hsb₁ Zg gD3 Ii ⊢;have k3:∀ b u,s.heap.get? b=some u->h3.get? b=some u:=fun b u e=>TY▸j5 _ e;have R3:∀ b u,h3.get? b=some u->h₁.get? b=some u:=fun b u e=>(hsb₁.2 b (kI (gP e))).trans (j5 _ e);have k1:∀ b u,s.heap.get? b=some u->h₁.get? b=some u:=fun b u e=>R3 b u (k3 b u e)
 have hDC:s.heap.objs.size≠h3.objs.size:=by rw[Ii];exact kI (Nat.lt_succ_self _)
 have fD:gM X pins H s.heap.objs.size:=I.wO (bM _) (I.hok.fresh (bM _));have fC:gM X pins H h3.objs.size:=I.wO (by rw[Ii];exact Nat.le_succ _) (I.hok.fresh (by rw[Ii];exact Nat.le_succ _));have lfp:∀ b∈fp,b<s.heap.objs.size:=fun b hb=>let ⟨_,e,_⟩:=T.obj _ _ st b hb;gP e;have hDf:s.heap.objs.size∉fp:=fun z=>Nat.lt_irrefl _ (lfp _ z);have hfree:∀ y∈scope.names,y.2 = .free->∃ c,X.env.cells.lookup y.1=some c:=fun y hy e=>I.ok.has y.1 (S.free y hy e);obtain⟨sub,has⟩:=rA scope.names [] hfree (fun y c e=>by simp at e);have p8:∀ y c,(lZ X.env scope).lookup y=some c->X.env.cells.lookup y=some c:=sub;have Ik:∀ y,(y,NameKind.free)∈scope.names->∃ c,(lZ X.env scope).lookup y=some c:=fun y hy=>Option.isSome_iff_exists.mp (has y (.inr hy));have inj:∀ b∈s.heap.objs.size::fp,gM X pins H b:=fun b hb=>(bI.mp hb).elim (fun z=>z▸fD) (hf b);have ltC:∀ b∈s.heap.objs.size::fp,b≠h3.objs.size:=fun b hb=>(bI.mp hb).elim (fun z=>z▸hDC) fun z=>kI (by rw[Ii];exact Nat.lt_succ_of_lt (lfp b z))
 have I1:Inv (cJ X (x::aX.map (·.2)) scope h3.objs.size { s with heap:=h3 } H (s.heap.objs.size::fp) (X.pn++pins)
   (notedBy (model X.prog X.w) X.A (compEnvC scope (lZ X.env scope) h3.objs.size X.env) fun e s'=>RR (.ref s.heap.objs.size) h3.objs.size (.error e) s')) [] (none::tM aX σ) H { s with heap:=h₁,toks:=s.toks+([]:List (Str×Value)).length }:=by
  refine⟨⟨I.ok.mod,S.kind,I.ok.glob,I.ok.blt,bM _,fun y z c e1 e2=>I.ok.inj y z c (p8 _ _ e1) (p8 _ _ e2),fun y hy=>Ik y (lU S.yr hy),fun y c e=>(nomatch e),I.ok.hd,I.ok.frames,.inl rfl,fun b hb=>⟨ltC b hb,fun y c e=>(inj b hb).2.2.2.2.1 y c (p8 y c e)⟩,
    fun b ob e=>⟨k3 b ob (I.bs b ob e).1,(I.bs b ob e).2⟩,?_,fun b ob e z=>?_,fun b hb=>I.vA (inj b hb).2.1 (inj b hb).2.2.1,?_,I.qD⟩,
   rfl,I.bare,Un.kept R3,⟨_,hns₁,fun i y v e1 e2 e3=>?_⟩,fun y c e=>?_,fC.1,fun y c e=>I.jH y c (p8 y c e),fun p hp=>?_,I.hok.kept k1,?_⟩
  ·exact Nat.le_trans I.ok.OD (Nat.le_trans I.sz (by show s.heap.objs.size<=h3.objs.size;rw[Ii];exact Nat.le_succ _))
  ·rcases (inj b z).2.2.2.1 with w1 | w1
   ·exact I.ok.Hw b ob e w1
   ·exact absurd (Ai (gP e) I.ok.OD) (Nat.not_lt.mpr w1)
  ·exact Heap.FunFrames.of_keeps (fun b ob e _=>⟨ob,k3 b ob e,rfl⟩) I.stack
  ·cases i with
   | zero=>cases e2
   | succ i=>
    have e1':(aX.map (·.2))[i]? = some y:=e1;have e2':(tM aX σ)[i]? = some (some v):=e2;unfold tM at e2';rw[gf]at e1' e2'
    cases ep:aX[i]? with
    | none=>rw[ep]at e1';cases e1'
    | some p=>
     rw[ep]at e1' e2';obtain rfl:p.2=y:=jO e1';have Bv:(σ[p.1]?).getD none=some v:=jO e2'
     have hσ:σ[p.1]? = some (some v):=by
      cases es:σ[p.1]? with
      | none=>rw[es]at Bv;cases Bv
      | some w1=>rw[es]at Bv;exact congrArg some Bv
     obtain⟨cN,cF⟩:=S.cap p (Gf ep);have mF:(p.2,NameKind.free)∈scope.names:=PySem.mem_of_lookup cF;have oF:=S.free _ mF rfl;obtain⟨m,hn,hlook⟩:=I.loc;obtain⟨u,ru,lk⟩:=hlook p.1 p.2 v cN hσ (.inr oF);refine⟨u,ru,.inr ⟨?_,?_⟩⟩
     ·rcases e3 with z | z
      ·exact absurd z (dF cF)
      ·exact z
     ·obtain⟨c,ec⟩:=Ik p.2 mF;refine⟨c,ec,?_⟩;rcases lk with ⟨z,_⟩ | ⟨_,c',ec',ob,ho,hd⟩
      ·have z':X.env.scope.names.lookup p.2=some .local:=z;rw[z']at oF;rcases oF with q | q <;> cases q
      ·have ee:=(p8 _ _ ec).symm.trans ec'
       cases ee
       exact⟨ob,k1 _ _ ho,hd⟩
  ·obtain⟨v,ob,ho,hd⟩:=I.cell y c (p8 y c e);exact⟨v,ob,k1 _ _ ho,hd⟩
  ·have hp':p∈X.pn++pins:=by
    rcases cX.mp hp with z | z
    ·exact z
    ·exact absurd z (by simp)
   obtain⟨e,n,ne,nf,d⟩:=I.pin p hp';refine⟨k1 _ _ e,n,kI ?_,I.vA ne nf,d⟩;show p.1<h3.objs.size;rw[Ii];exact Nat.lt_succ_of_lt (gP e)
  ·show (none::tM aX σ).length=(x::aX.map (·.2)).length;simp [tM]
 have hf1:∀ b∈s.heap.objs.size::fp,gM (cJ X (x::aX.map (·.2)) scope h3.objs.size { s with heap:=h3 } H (s.heap.objs.size::fp) (X.pn++pins)
   (notedBy (model X.prog X.w) X.A (compEnvC scope (lZ X.env scope) h3.objs.size X.env) fun e s'=>RR (.ref s.heap.objs.size) h3.objs.size (.error e) s')) [] H b:=fun b hb=>by
  obtain⟨f0,f1,f2,f3,f4,f5⟩:=inj b hb;refine⟨f0,ltC b hb,I.vA f1 f2,.inl hb,fun y c e=>f4 y c (p8 y c e),fun p hp=>f5 p ?_⟩;rcases cX.mp hp with z | z
  ·exact z
  ·exact absurd z (by simp)
 have st1:tn 0 h₁:=T.keep _ _ _ st fun b _ ob e=>k1 b ob e
 have hpass:Passes (ou X.prog X.w) (cJ X (x::aX.map (·.2)) scope h3.objs.size { s with heap:=h3 } H (s.heap.objs.size::fp) (X.pn++pins)
   (notedBy (model X.prog X.w) X.A (compEnvC scope (lZ X.env scope) h3.objs.size X.env) fun e s'=>RR (.ref s.heap.objs.size) h3.objs.size (.error e) s')) EX:=by
  intro pins2 σ2 H2 s2 e s' J1 hcx;have u1:Un (frs X.stack) (s.heap.objs.size::fp) H H2 h3 s2.heap:=J1.base
  have J2:Inv X pins σ H2 s2:=Inv.call' (s:={ s with heap:=h3 }) Zg J1.os u1 J1.hok J1.bare fun b hb=>by
   obtain⟨_,f1,_,f3,f4,f5⟩:=inj b hb;exact⟨f3,f1,f4,f5⟩
  obtain⟨m,hn,_⟩:=J1.loc;exact hER s.heap.objs.size h3.objs.size H2 s2 m e s' J2 hn ⟨J1.free,fC.2⟩ hcx
 have loop:codeAny (model X.prog X.w) X.A (.compLoop (.ListComp elt [⟨.Name x px,iter,ifs,0⟩] scope pos) 0 (.ref it) (.ref s.heap.objs.size) (compEnvC scope (lZ X.env scope) h3.objs.size X.env)) (RR (.ref s.heap.objs.size) h3.objs.size) { s with heap:=h₁,toks:=s.toks+([]:List (Str×Value)).length }:=by
  refine zj (X:=cJ X (x::aX.map (·.2)) scope h3.objs.size { s with heap:=h3 } H (s.heap.objs.size::fp) (X.pn++pins) (notedBy (model X.prog X.w) X.A (compEnvC scope (lZ X.env scope) h3.objs.size X.env) fun e s'=>RR (.ref s.heap.objs.size) h3.objs.size (.error e) s'))
   hc rfl S.nd (lookup_relabel_local S.hx) I1 T st1 (fun b hb=>hf1 b (GQ _ hb)) (hf1 _ Cu) hDf ⟨0,R3 _ _ gD3⟩ (wL _ _ _ _ _ _) (helt _ _ _ _ _ _ hpass) hW rfl ?_
  intro s' H' acc its o' J1 Uh va hlen nD z;have u1:Un (frs X.stack) (s.heap.objs.size::fp) H H' h3 s'.heap:=J1.base
  have J2:Inv X pins σ H' s':=Inv.call' (s:={ s with heap:=h3 }) Zg J1.os u1 J1.hok J1.bare fun b hb=>by
   obtain⟨_,f1,_,f3,f4,f5⟩:=inj b hb;exact⟨f3,f1,f4,f5⟩
  obtain⟨m,hn,_⟩:=J1.loc;exact hRR s' H' acc its _ _ m J2 Uh va hlen ⟨nD,fD.2⟩ ⟨J1.free,fC.2⟩ hDC hn z
 exact codeAny_compStart_list loop (T.self _ 0 _ _ _ st1 loop)
theorem Q7{EX:XK}{i:Nat}{y:Str}{py spos:Pos}(hpa:rF X EX)(hc:X.calm=true)(hN:X.N.Nodup)(hi':X.N[i]? = some y)(hy:Loc X.env.scope y)(S:bD X.env.scope X.N scope x aX)(hi:PI X (.Name x px) iter wi)
  (wL:∀ C s H ex pn E,Fw (cJ X (x::aX.map (·.2)) scope C s H ex pn E) ifs tc) (helt:∀ C s H ex pn E,Passes (ou X.prog X.w) (cJ X (x::aX.map (·.2)) scope C s H ex pn E) EX->PE (cJ X (x::aX.map (·.2)) scope C s H ex pn E) elt te)
  (hsw:swapsWith (.ListComp elt [⟨.Name x px,iter,ifs,0⟩] scope pos) (some (.Name y py)) spos.line X.env=pure true:=by rfl) (hs:∀ x,foldedSetIterable iter X.env x=pure x:=by intro _;rfl) (hex:X.ex=[]:=by rfl) (hst:X.stack=X.env::X.outer:=by rfl) (hfr:X.env.frame=some X.env.locals:=by rfl)
  (hfn:X.fn y=true∨X.env.scope.names.lookup y=some .local:=by first | exact .inl rfl | exact .inr rfl | assumption):PS X (.Assign [.Name y py] (.ListComp elt [⟨.Name x px,iter,ifs,0⟩] scope pos) spos) (Oj (Oi wi aX tc te) (FZ i)):=by
 intro pins s σ H D0 I h;have hfree:∀ y∈scope.names,y.2 = .free->∃ c,X.env.cells.lookup y.1=some c:=fun y hy e=>I.ok.has y.1 (S.free y hy e);rw[exec_Assign_Name_used _ _ _ _ hsw];refine wpAny_bind (wpAny_standAt (wpAny_bind ?_));show wpAny _ _ (do let _ ← comprehension (.ListComp elt [⟨.Name x px,iter,ifs,0⟩] scope pos) scope X.env _ (newList []) false (eval iter X.env) (some (assign (.Name y py) X.env))) _ _ s
 refine wpAny_bind (wpAny_mono (wpAny_comprehension_free (use:=some (assign (.Name y py) X.env)) (Q:=fun _ s'=>SP X pins D0 .next s') rfl hs (pO hfree) S.kind S.Qo
  (au (hi pins s σ H _ I h) fun v s1 h1=>au h1 fun itv s2 h2=>?_)) (fun _ s' hq=>wpAny_pure (wpAny_pure hq)) fun _ _ e=>e)
 obtain⟨it,fp,tn,J,H2,e,I2,T,st2,f2,hW⟩:=h2;subst e;refine Fg (RR:=fun acc C=>compPost (model X.prog X.w) X.A X.xe (some (assign (.Name y py) X.env)) (fun _ s'=>SP X pins D0 .next s') acc C) hc S I2 T st2 f2 wL helt (fun D C H2 s2 m e s' J hn f hcx=>Ry hpa hex J hn f.1 (J.vA f.2.1 f.2.2.1) (Heap.get?_none_of_le (f.2.2.2.1.elim (fun z=>by rw[hex]at z;cases z) id)) hst hfr hcx) hW ?_;intro s' H' acc its D C m J2 Uh va hlen fD fC hDC hn z;obtain⟨nD,gD⟩:=Uh;have J3:Inv X pins σ (upd H' D (.lst acc)) s':=J2.adopt fD ⟨hlen,its,nD,va,gD⟩;show wpAny _ _ (assign (.Name y py) X.env (.ref D)) _ _ s';refine wpAny_assign_Name (rZ J3 hN hi' hy (show RelV (.ref D) (.ref D) from rfl) (fun s4 J4 ⟨a,sa,ha⟩=>?_) hfn)
 have hCa:C≠a:=by
  rcases ha with q | q
  ·rw[q];exact fC.2.1
  ·exact (fC.2.2.2.2.1 y a q).symm
 refine⟨m,hn.sameBut sa hCa,fun h'' sb=>?_⟩;exact⟨_,_,J4.turned (t':=s4.toks) (fun b ob hb e=>(sb.2 b hb).trans e) (by rw[zQ (Ne.symm hDC)];exact fC.1) fC.2.1 fC.2.2.2.1 fC.2.2.2.2.1 fC.2.2.2.2.2,z D fD.1⟩
end
section
variable{M:Model}{A:Around}{E:Value->Shared->Prop}{s:Shared}{base:Heap}{env:Env}{outer:List Env}{L e:Addr}{cls a0 fl:Value}{dd:Option Addr}{Q:Unit->Shared->Prop}
theorem Ql(hfr:A.frames=some (env::outer))(hf:env.frame=some L)(hkb:base.StaysIn s.heap)(hb:base.get? e=none)(hl:s.heap.FunFrames base (env::outer))(ht:s.heap.TracedAtW base e cls a0 fl)(x:DictAt s.heap e dd)
  (hQ:∀ h',Heap.HeldW base (env::outer) e cls a0 L h'->s.heap.UpToSlots h'->DictAt h' e dd->Q () { s with heap:=h' }):wpAny M A (noteFrame (.ref e) env) Q E s:=by
 by_cases hfl:fl=rawInt L
 ·subst hfl;exact wpAny_noteFrame_againW hf ht (hQ s.heap ⟨hkb,hb,hl,ht⟩ (Heap.UpToSlots.refl _) x)
 ·obtain⟨oe,vs,T,oT,ts,he,⟨hc,h0⟩,hd,h1,hnT,hTe,hT,hdT,h3⟩:=ht;subst hc;unfold noteFrame;simp only[hf];refine wpAny_bind (wpAny_field he hd h1 ?_);rw[if_pos (show (Value.ref T != Value.none)=true by simp)];refine wpAny_bind (wpAny_field hT hdT h3 ?_);rw[if_neg (show ¬ ((fl==rawInt L)=true) by simpa using hfl)];refine wpAny_bind (wpAny_setField hT hdT (Array.getElem?_eq_some_iff.mp h3).1 ?_);have other:∀ b,b≠T->(s.heap.update T (Obj.mapFields (·.setIfInBounds 3 Value.none))).get? b=s.heap.get? b:=fun b z=>Heap.get?_update_other _ _ (Ne.symm z)
  have Ej:∀ b o,s.heap.get? b=some o->(∀ vs,o.data≠.fields vs)->b≠T:=fun b o z1 z2 z=>by
   subst z;rw[hT]at z1
   cases z1
   exact z2 ts hdT
  have hl1:(s.heap.update T (Obj.mapFields (·.setIfInBounds 3 Value.none))).FunFrames base (env::outer):=hl.of_keeps fun b o z1 z2=>⟨o,(other b (Ej b o z1 z2)).trans z1,rfl⟩;have Km:=(other e (Ne.symm hTe)).trans he;have hsz:=(Array.getElem?_eq_some_iff.mp h1).1
  refine wpAny_mono (dj (wpAny_entryW (s:={ s with heap:=s.heap.update T (Obj.mapFields (·.setIfInBounds 3 Value.none)) }) (Q:=fun _ s'=>∃ h',s' = { s with heap:=h' }/\Heap.NotedW base (env::outer) e oe.cls a0 (rawInt L) (s.heap.update T (Obj.mapFields (·.setIfInBounds 3 Value.none))) h') hfr hl1 hf Km
   (fun b o z=>(other b fun q=>by rw[q,hnT]at z;cases z).trans (hkb b o z)) hb hd hsz h0 fun h' k=>⟨h',rfl,k⟩)
   (lJ (s:={ s with heap:=s.heap.update T (Obj.mapFields (·.setIfInBounds 3 Value.none)) }) (Q:=fun _ s'=>DictAt s'.heap e dd) hfr hl1 hf Km hd hsz (x.upd hT hdT) fun _ _ _ _ z _ _ _ _=>z))
   (fun _ s3 ⟨⟨h',y,k1,k2,k3,k4⟩,k5⟩=>by subst y;exact hQ h' ⟨k1,hb,k2,k3⟩ (fun b o z1 z2=>k4 b o ((other b (Ej b o z1 z2)).trans z1) z2) k5) fun _ _ y=>y
end
noncomputable def SN(X:Cx)(E:XK)(e:Value)(s':Shared):Prop:=∃(ea:Addr)(cls a0 fl:Value)(dd:Option Addr)(H':Hp)(B:Heap),e = .ref ea/\X.A.frames=some X.stack/\(∀ b∈frs X.outer,X.H₀ b=none/\∃ ob,X.s₀.heap.get? b=some ob/\∀ vs,ob.data≠.fields vs)/\s'.os=X.s₀.os/\AllBare s'.gens ∧
 B.StaysIn s'.heap/\B.get? ea=none/\s'.heap.FunFrames B X.stack/\s'.heap.TracedAtW B ea cls a0 fl/\j6 X.prog X.w H' s'.heap/\Un (frs X.outer) [] X.H₀ H' X.s₀.heap s'.heap/\(∀ b,(H' b).isSome=true->∃ o,s'.heap.get? b=some o/\B.get? b=some o) ∧
 (∀ b o,X.s₀.heap.get? b=some o->b∉frs X.outer->∃ o',s'.heap.get? b=some o'/\B.get? b=some o')/\DictAt s'.heap ea dd/\E cls dd H'
section
variable{X:Cx}{E:XK}
theorem Bt(hst:X.stack=X.env::X.outer)(hfr:X.env.frame=some X.env.locals):PassesOwn (model X.prog X.w) X.A X.env (SN X E):=by
 rintro e s' ⟨ea,cls,a0,fl,dd,H',B,rfl,hA,hO,ho,hg,st,hb,hl,ht,hok,un,hB,hC,hdd,hq⟩;have hA':=hA;rw[hst]at hA' hl;refine Ql hA' hfr st hb hl ht hdd fun h' held sl dk=>?_;obtain⟨k1,k2,k3,oe,vs,T,oT,ts,he,hcl,hd,h1,hnT,hTe,hT,hdT,h3⟩:=held;have sz3:=(Array.getElem?_eq_some_iff.mp h3).1;refine wpAny_bind (wpAny_field he hd h1 ?_);rw[if_neg (show ¬ ((Value.ref T==Value.none)=true) by simp)];show wpAny _ _ (setFlight (.ref ea) X.env.frame) _ _ _;unfold setFlight;refine wpAny_bind (wpAny_field he hd h1 ?_);rw[if_pos (show (Value.ref T != Value.none)=true by simp)];refine wpAny_setField hT hdT sz3 ?_;generalize hfv:(X.env.frame.elim Value.none fun f=>rawInt f)=fv;generalize hh6:h'.update T (Obj.mapFields (·.setIfInBounds 3 fv))=h6
 have o6:∀ b,b≠T->h6.get? b=h'.get? b:=fun b z=>by rw[<-hh6];exact Heap.get?_update_other _ _ (Ne.symm z)
 have T6:h6.get? T=some (oT.mapFields (·.setIfInBounds 3 fv)):=by rw[<-hh6];exact Heap.get?_update_self _ hT (Obj.isFreed_of_fields (Obj.data_mapFields hdT _))
 have noT:∀ b o,h'.get? b=some o->(∀ vs,o.data≠.fields vs)->b≠T:=fun b o z1 z2 z=>by
  subst z;rw[hT]at z1
  cases z1
  exact z2 ts hdT
 have GR:B.StaysIn h6:=fun b o z=>(o6 b (fun y=>by rw[y,hnT]at z;cases z)).trans (k1 b o z)
 have sl6:s'.heap.UpToSlots h6:=fun b o z1 z2=>by
  obtain⟨sl1,y⟩:=sl b o z1 z2;exact⟨sl1,(o6 b (noT b _ y z2)).trans y⟩
 refine⟨ea,cls,a0,fv,dd,H',B,rfl,hA,hO,ho,hg,GR,hb,?_,⟨oe,vs,T,_,_,(o6 ea (Ne.symm hTe)).trans he,hcl,hd,h1,hnT,hTe,T6,Obj.data_mapFields hdT _,by simp [sz3]⟩,hok.flown hB GR,un.flown hC GR sl6 hO,fun b z=>?_,fun b o z1 z2=>?_,?_,hq⟩
 ·rw[hst];exact k3.of_keeps fun b o z1 z2=>⟨o,(o6 b (noT b o z1 z2)).trans z1,rfl⟩
 ·obtain⟨o,_,y⟩:=hB b z;exact⟨o,GR b o y,y⟩
 ·obtain⟨o',_,y⟩:=hC b o z1 z2;exact⟨o',GR b _ y,y⟩
 ·obtain⟨o1,y1,y2⟩:=dk;have:h'.get? ea=some o1:=y1;rw[he]at this
  cases this
  exact⟨_,(o6 ea (Ne.symm hTe)).trans he,y2⟩
theorem Xk{E':XK}(hE:∀ c d H,E' c d H->E c d H)(hex:X.ex=[]:=by rfl)(hst:X.stack=X.env::X.outer:=by rfl)(hfr:X.env.frame=some X.env.locals:=by rfl):Passes (ou X.prog X.w) (X.wish (SN X E)) E':=by
 intro pins σ H1 s1 e s' I h;obtain⟨ea,cls,a0,H',B,rfl,ho,hg,fl,hok,un,hB,hC,dd,hdd,hq⟩:=h;have I0:Inv X pins σ H1 s1:=I.fQ;have J:=I0.call' ho un hok hg (fun _ z=>nomatch z)
 have ub:Un (frs X.outer) [] X.H₀ H' X.s₀.heap s'.heap:=by
  have:=J.base;rw[hex]at this;exact this
 obtain⟨f1,f2,f3,f4⟩:=fl;refine⟨ea,cls,a0,.none,dd,H',B,rfl,I0.ok.frames,I0.pJ,ho.trans I0.os,hg,f1,f2,f3,f4.at,hok,ub,hB,fun b o z1 z2=>?_,hdd,hE _ _ _ hq⟩;obtain⟨o1,y1⟩:=I0.base.there b o z1 (by rw[hex];simp);refine hC b o1 y1 fun y=>?_;rw[show (X.wish (SN X E)).stack=X.env::X.outer from hst,gG hfr]at y;rcases bI.mp y with k | k
 ·exact kI (Ai (gP z1) I0.ok.above) k
 ·exact z2 k
theorem Xj{E':XK}(hE:∀ c d H,E' c d H->E c d H):rF (X.wish (SN X E)) E':=by
 intro pins σ H1 s1 ea cls a0 fl dd H' B s' I ho hg st hb hl ht hok un hB hC hdd hq;have I0:Inv X pins σ H1 s1:=I.fQ;exact⟨ea,cls,a0,fl,dd,H',B,rfl,I0.ok.frames,I0.pJ,ho,hg,st,hb,hl,ht,hok,un,hB,hC,hdd,hE _ _ _ hq⟩
theorem Q8{st:Stmt}{t:TS}(hp:rF X E)(h:PS (X.wish (SN X E)) st t):PS X st t:=fun pins s σ H D I hw=>
 wpAny_mono (h pins s σ H D (I.wish _) hw) (fun _ _ q=>q.fQ) fun e s' hz_=>by
  obtain⟨ea,cls,a0,fl,dd,H',B,z,_,_,k1,k2,k3,k4,k5,k6,k7,k8,k9,k10,k11,k12⟩:=hz_;subst z;exact hp pins σ H s ea cls a0 fl dd H' B s' I k1 k2 k3 k4 k5 k6 k7 k8 k9 k10 k11 k12
end
end L2
namespace pQ
open PySem L2
noncomputable def Ax(K:bO):Sp:=fun vs H Q _ => ∃(a:Addr)(ns:List Int)(k:Int),vs=[.ref a,.int k]/\aQ K H a (ns.map V.int)/\ns.length<=63/\∀ v:Int,Q (.int v) H
noncomputable def kJ(K:bO):Sp:=fun vs H Q _ => ∃(a:Addr)(ns:List Int)(k salt:Int),vs=[.ref a,.int k,.int salt]/\aQ K H a (ns.map V.int)/\ns.length<=63/\(0<=k/\k<=1000000)/\(0<=salt/\salt<=1000) ∧
 ∀ r:Int,0<=r->r<2147483648->Q (.int r) H
section
variable{P:Program}{w:World}{K:bO}{mg:Str->Option Value}{base:Heap}
theorem scC:aH ["_law_script","_law_k"] ["_law_script","_law_k"] (aB Jy):=eO
theorem VF{f:Addr}{fd:FuncData}(F:cY K "_law_cell_at" "_law_cell_at" Jy f fd)(ml:mg "len" = none):aM P w K mg base aW 1 f fd ["_law_script","_law_k"] (Ax K):=by
 refine F.ok scC (fun vs H Q E h=>?_) (fun cdv A outer s H vs Q E hr h=>?_)
 ·refine aJ fun G_ g_=>?_;obtain⟨a,ns,k,rfl,_⟩:=h;apply g_;clear g_ G_;rfl
 refine aJ fun G_ g_=>?_;obtain⟨a,ns,k,rfl,hS,h63,q⟩:=h;apply g_;clear g_ G_
 refine⟨_,zE (yD (zL yG (zS zN rfl ml cA (zA (pv 0) zD)) zB (zR _)) (zG (zO zB)) zT)
  (zG (zO (yB yU (pv 0) (yC zY (pv 1) (zS zN rfl ml cA (zA (pv 0) zD))) (fun _ _=>rfl)))),?_⟩
 have hl:(ns.map V.int).length=ns.length:=bZ _;refine⟨_,rfl,a,_,rfl,.inl hS,rfl,_,rfl,?_⟩;refine oR (fun c=>?_) (fun c=>?_)
 ·exact q 0
 ·have c':¬ V.int (((ns.map V.int).length:Nat):Int)=V.int 0:=of_decide_eq_false (Bool.eq_false_iff.mpr c)
  have hp:(0:Int)<(((ns.map V.int).length:Nat):Int):=by
   rw[hl]at c' ⊢;have:ns.length≠0:=fun z=>c' (by rw[z];rfl);lia
  obtain⟨v,hv⟩:=Le (ns:=ns) (i:=k%(((ns.map V.int).length:Nat):Int)) (pW _ (by lia)) (by have:=rR k hp;rw[hl]at this ⊢;exact this);exact⟨_,rfl,_,rfl,_,rfl,a,_,rfl,.inl hS,_,_,rfl,rfl,hp,a,_,_,_,rfl,rfl,hS,hv,q v⟩
theorem ZK:aH ["_law_script","_law_k","_law_salt","_law_cell","_law_lap",qAO] ["_law_script","_law_k","_law_salt"] (aB BX):=eO
theorem qi{i j:Int}(h0:0<=i)(h1:i<18446744073709551616):W2 i j:=.inl ⟨by lia,by lia⟩
theorem Qa{f g:Addr}{fd gd:FuncData}(F:cY K "_law_mixed" "_law_mixed" BX f fd)(G:aM P w K mg base aW 1 g gd ["_law_script","_law_k"] (Ax K))(bG:Binds K gd ["_law_script","_law_k"] [])(kG:KI K g)(mG:mg "_law_cell_at" = some (.ref g))
  (ml:mg "len" = none) (mm:mg "max" = none):aM P w K mg base aW 2 f fd ["_law_script","_law_k","_law_salt"] (kJ K):=by
 refine F.ok ZK (fun vs H Q E h=>?_) (fun cdv A outer s H vs Q E hr h=>?_)
 ·refine aJ fun G_ g_=>?_;obtain⟨a,ns,k,salt,rfl,_⟩:=h;apply g_;clear g_ G_;rfl
 refine aJ fun G_ g_=>?_;obtain⟨a,ns,k,salt,rfl,hS,h63,hk,hs,q⟩:=h;apply g_;clear g_ G_
 refine⟨_,zE (zK (i:=3) ZK.nd rfl (Or.inl rfl) (zJ G hr rfl mG kG bG .nil yE (zA (pv 0) (zA (pv 1) zD))))
  (zE (zK (i:=4) ZK.nd rfl (Or.inl rfl) (yC yL (pv 1) (zS (Nb rfl) rfl mm PyProof.Rows.boot_max (zA zB (zA (zS zN rfl ml cA (zA (pv 0) zD)) zD)))))
  (zE (zK (i:=5) ZK.nd rfl (Or.inl rfl) (yC yF (yC yF (yC yF (yC QS (pv 3) zB) (yC fW (yC fW zB (pv 1)) (pv 1))) (yC fW (yC fW zB (pv 2)) (pv 2))) zB))
  (zE (zK (i:=5) ZK.nd rfl (Or.inl rfl) (yC zY (yC fW (pv 5) zB) zB))
  (zE (zK (i:=5) ZK.nd rfl (Or.inl rfl) (yC zY (yC fW (pv 5) (pv 5)) zB))
  (zG (zO (yC QS (yC yF (yC Xl (pv 3) (yC fW zB (yC yF (pv 2) (yC fW zB (pv 4))))) (pv 5)) zB))))))),?_⟩
 have hl:(ns.map V.int).length=ns.length:=bZ _;refine⟨_,rfl,_,rfl,a,ns,k,rfl,hS,h63,fun v=>?_⟩;refine⟨_,rfl,_,rfl,a,_,rfl,.inl hS,_,_,rfl,aq ?_⟩
 have hM:0<(if (((ns.map V.int).length:Nat):Int)>1 then (((ns.map V.int).length:Nat):Int) else 1)/\(if (((ns.map V.int).length:Nat):Int)>1 then (((ns.map V.int).length:Nat):Int) else 1)<1073741824:=by
  rw[hl]
  split <;> lia
 refine⟨hM,?_⟩;have qG0:0<=k/(if (((ns.map V.int).length:Nat):Int)>1 then (((ns.map V.int).length:Nat):Int) else 1):=Int.ediv_nonneg hk.1 (Int.le_of_lt hM.1);refine⟨_,rfl,aq ⟨_,rfl,aq ⟨qi (by decide) (by decide),_,rfl,aq ⟨qi (by lia) (by lia),_,_,rfl,rfl,_,rfl,aq ⟨qi (by decide) (by decide),_,rfl,aq ⟨qi (by lia) (by lia),_,_,rfl,rfl,aq ?_⟩⟩⟩⟩⟩⟩;refine⟨_,rfl,aq ⟨.inr ⟨by decide,by decide⟩,_,_,rfl,rfl,(by show (0:Int)<2147483647;decide),?_⟩⟩;have b1:=pW ((Builtin.bitAnd v 2147483647+1009*k*k+7919*salt*salt+12)*48271) (show (2147483647:Int)≠0 by decide);have b2:=rR ((Builtin.bitAnd v 2147483647+1009*k*k+7919*salt*salt+12)*48271) (show (0:Int)<2147483647 by decide);refine⟨_,rfl,_,rfl,aq ⟨qi b1 (Int.lt_trans b2 (by decide)),_,_,rfl,rfl,(by show (0:Int)<2147483629;decide),?_⟩⟩;refine⟨_,rfl,_,rfl,_,rfl,aq ⟨qi (by decide) (by decide),_,_,rfl,rfl,aq ⟨qi (by decide) (by decide),_,_,rfl,rfl,?_,_,rfl,aq (aq ?_)⟩⟩⟩
 ·have nn:∀ lap:Int,0<=lap->0<=31*(salt+128*lap):=fun lap h=>by lia
  exact nn _ qG0
 ·exact q _ (WY _).1 (WY _).2
end
end pQ
namespace pQ
open PySem L2 rG
noncomputable def pV:Option Nat->V
 | none=>.non
 | some j=>.int (j:Int)
noncomputable def aC(s:List Nat):List V:=s.map fun j:Nat=>V.int (j:Int)
theorem Ff(xs:List V){d:Int}(h:0<=d):pN xs none (some d)=xs.take d.toNat:=by
 show (xs.drop 0).take ((if d<0 then (d+(xs.length:Int)).toNat else min d.toNat xs.length)-0)=_;rw[if_neg (by lia),List.drop_zero,Nat.sub_zero,List.take_eq_take_iff];lia
end pQ
namespace pQ
open PySem L2 rG CN
theorem yt(os:List Nat):(aC os).all mj=true:=by
 rw[List.all_eq_true];intro x hx;obtain⟨n,_,rfl⟩:=eQ.mp hx;rfl
theorem KQ{os:List Nat}{j:Int}(h:inV (.int j) (aC os)=true):∃ o∈os,(o:Int)=j:=by
 unfold inV aC at h;rw[List.any_map,List.any_eq_true]at h;obtain⟨o,ho,e⟩:=h;exact⟨o,ho,by simpa [Tc] using e⟩
theorem El{os:List Nat}{i:Int}(h0:0<=i)(h1:i<(os.length:Int)):∃ o∈os,uQ (aC os) i=some (.int (o:Int)):=by
 obtain⟨v,hv,e⟩:=jx (xs:=aC os) (i:=i) h0 (by unfold aC;rw[bZ];exact h1);obtain⟨o,ho,rfl⟩:=eQ.mp hv;exact⟨o,ho,e⟩
theorem zU(os:List Nat):(aC os).length=os.length:=bZ _
theorem iJ(os:List Nat)(k:Nat):aC os++[.int (k:Int)]=aC (os++[k]):=by
 unfold aC;rw[jd];rfl
end pQ
namespace jY
open PySem L2 pQ rG CN
theorem gJ{os:List Nat}{f:Nat->Bool}{i o:Nat}(h:os[i]? = some o):(os.take (i+1)).filter f=(os.take i).filter f++(if f o=true then [o] else []):=by
 rw[j8,h,List.filter_append];congr 1;show [o].filter f=_;rw[List.filter_cons]
 split <;> rfl
theorem yR{os:List Nat}{i:Nat}{x:V}(h:(aC os)[i]? = some x):∃ hi:i<os.length,x = .int ((os[i]:Nat):Int):=by
 have hi:i<os.length:=by
  have:=(lQ.mp h).1;rw[zU]at this;exact this
 refine⟨hi,?_⟩;unfold aC at h;rw[gf,gq hi]at h;exact (jO h).symm
end jY
namespace K02
open PySem L2 pQ rG
noncomputable abbrev mO:Stmt:=pQ.mO
noncomputable def kO(n:Nat):Sp:=fun vs H Q _ => ∃(vg:V)(o b:Addr)(g:Gd)(op bx:List Int),vs=[vg,.ref o,.ref b]/\jc H vg g/\H o=some (.tup (op.map V.int))/\H b=some (.tup (bx.map V.int))/\g.ok bx.length/\g.ht<=n/\Q (.bl (g.holds op bx)) H
section
variable{P:Program}{w:World}{K:bO}{mg:Str->Option Value}{base:Heap}
theorem De:aH ["guard","opening","boxes","kind"] ["guard","opening","boxes"] (aB mO):=eO
theorem Qd{n:Nat}{f:Addr}{fd:FuncData}(F:cY K "holds" "holds" mO f fd)(lN:Dp P w K mg base aW n f fd ["guard","opening","boxes"] (kO n) "holds") :
  aM P w K mg base aW (n+1) f fd ["guard","opening","boxes"] (kO (n+1)):=by
 refine F.ok De (fun vs H Q E h=>?_) (fun cdv A outer s H vs Q E hr h=>?_)
 ·refine aJ fun G_ g_=>?_;obtain⟨vg,o,b,g,op,bx,rfl,_⟩:=h;apply g_;clear g_ G_;rfl
 refine aJ fun G_ g_=>?_;obtain⟨vg,o,b,g,op,bx,rfl,hg,ho,hb,hok,hht,q⟩:=h;apply g_;clear g_ G_
 refine⟨_,(zE (zK (i:=3) De.nd rfl (Or.inl rfl) (yB zH (pv 0) zB (fun _ _=>rfl)))
  (zE (yD (zL yG (pv 3) zP (zR _))
  (zG (zO gF))
  zT)
  (zE (yD (zL yG (pv 3) zP (zR _))
  (zG (zO (nj yG (yB zH (pv 2) (yB zH (pv 0) zB (fun _ _=>rfl)) (fun _ _=>rfl)) (yB zH (pv 0) zB (fun _ _=>rfl)) (zR _))))
  zT)
  (zE (yD (zL yG (pv 3) zP (zR _))
  (zG (zO (nj lR (yB zH (pv 2) (yB zH (pv 0) zB (fun _ _=>rfl)) (fun _ _=>rfl)) (yB zH (pv 0) zB (fun _ _=>rfl)) (zR _))))
  zT)
  (zE (yD (zL yG (pv 3) zP (zR _))
  (zG (zO (nj sX (yB zH (pv 0) zB (fun _ _=>rfl)) (pv 1) rfl)))
  zT)
  (zE (yD (zL yG (pv 3) zP (zR _))
  (zG (zO (Xf (pC lN hr (zA (yB zH (pv 0) zB (fun _ _=>rfl)) (zA (pv 1) (zA (pv 2) zD)))))))
  zT)
  (zE (yD (zL yG (pv 3) zP (zR _))
  (zG (zO (QH (pC lN hr (zA (yB zH (pv 0) zB (fun _ _=>rfl)) (zA (pv 1) (zA (pv 2) zD)))) (HX (pC lN hr (zA (yB zH (pv 0) zB (fun _ _=>rfl)) (zA (pv 1) (zA (pv 2) zD))))))))
  zT)
  (zG (zO (qB1 (pC lN hr (zA (yB zH (pv 0) zB (fun _ _=>rfl)) (zA (pv 1) (zA (pv 2) zD)))) (HX (pC lN hr (zA (yB zH (pv 0) zB (fun _ _=>rfl)) (zA (pv 1) (zA (pv 2) zD))))))))))))))),?_⟩
 cases hg with
 | @yes a e=>
  exact⟨_,rfl,aF (aK.of e) rfl ⟨_,rfl,rfl,_,rfl,yO q⟩⟩
 | @is a c m e=>
  refine⟨_,rfl,aF (aK.of e) rfl ⟨_,rfl,rfl,_,rfl,yN (by decide +kernel) ⟨_,rfl,rfl,_,rfl,yO ?_⟩⟩⟩;exact⟨_,rfl,_,rfl,aF (aK.of e) rfl (aF (aK.of hb) (wg hok.1 hok.2) ⟨_,rfl,aF (aK.of e) rfl ⟨rfl,q⟩⟩)⟩
 | @under a c m e=>
  refine⟨_,rfl,aF (aK.of e) rfl ⟨_,rfl,rfl,_,rfl,yN (by decide +kernel) ⟨_,rfl,rfl,_,rfl,yN (by decide +kernel) ⟨_,rfl,rfl,_,rfl,yO ?_⟩⟩⟩⟩;exact⟨_,rfl,_,rfl,aF (aK.of e) rfl (aF (aK.of hb) (wg hok.1 hok.2) ⟨_,rfl,aF (aK.of e) rfl (aq q)⟩)⟩
 | @inn a r e=>
  refine⟨_,rfl,aF (aK.of e) rfl ⟨_,rfl,rfl,_,rfl,yN (by decide +kernel) ⟨_,rfl,rfl,_,rfl,yN (by decide +kernel) ⟨_,rfl,rfl,_,rfl,yN (by decide +kernel) ⟨_,rfl,rfl,_,rfl,yO ?_⟩⟩⟩⟩⟩;exact⟨_,rfl,aF (aK.of e) rfl ⟨_,rfl,iZ rfl (.inr (aK.of ho)) ⟨rfl,tG op,q⟩⟩⟩
 | @neg a v g e hg=>
  have h1:g.ht+1<=n+1:=hht;refine⟨_,rfl,aF (aK.of e) rfl ⟨_,rfl,rfl,_,rfl,yN (by decide +kernel) ⟨_,rfl,rfl,_,rfl,yN (by decide +kernel) ⟨_,rfl,rfl,_,rfl,yN (by decide +kernel) ⟨_,rfl,rfl,_,rfl,yN (by decide +kernel) ⟨_,rfl,rfl,_,rfl,yO ?_⟩⟩⟩⟩⟩⟩;exact⟨_,rfl,aF (aK.of e) rfl ⟨_,rfl,_,rfl,v,o,b,g,op,bx,rfl,hg,ho,hb,hok,by lia,_,rfl,q⟩⟩
 | @both a v u g h e hg hh=>
  have h1:1+max g.ht h.ht<=n+1:=hht;refine⟨_,rfl,aF (aK.of e) rfl ⟨_,rfl,rfl,_,rfl,yN (by decide +kernel) ⟨_,rfl,rfl,_,rfl,yN (by decide +kernel) ⟨_,rfl,rfl,_,rfl,yN (by decide +kernel) ⟨_,rfl,rfl,_,rfl,yN (by decide +kernel) ⟨_,rfl,rfl,_,rfl,yN (by decide +kernel) ⟨_,rfl,rfl,_,rfl,yO ?_⟩⟩⟩⟩⟩⟩⟩;refine⟨_,rfl,aF (aK.of e) rfl ⟨_,rfl,_,rfl,v,o,b,g,op,bx,rfl,hg,ho,hb,hok.1,by lia,_,rfl,?_⟩⟩;have q':Q (.bl (g.holds op bx&&h.holds op bx)) H:=q;refine oR (fun c=>?_) (fun c=>?_)
  ·rw[c,Bool.true_and]at q';exact⟨_,rfl,aF (aK.of e) rfl ⟨_,rfl,_,rfl,u,o,b,h,op,bx,rfl,hh,ho,hb,hok.2,by lia,q'⟩⟩
  ·rw[Bool.eq_false_iff.mpr c,Bool.false_and]at q';exact q'
 | @either a v u g h e hg hh=>
  have h1:1+max g.ht h.ht<=n+1:=hht;refine⟨_,rfl,aF (aK.of e) rfl ⟨_,rfl,rfl,_,rfl,yN (by decide +kernel) ⟨_,rfl,rfl,_,rfl,yN (by decide +kernel) ⟨_,rfl,rfl,_,rfl,yN (by decide +kernel) ⟨_,rfl,rfl,_,rfl,yN (by decide +kernel) ⟨_,rfl,rfl,_,rfl,yN (by decide +kernel) ⟨_,rfl,rfl,_,rfl,yN (by decide +kernel) ?_⟩⟩⟩⟩⟩⟩⟩;refine⟨_,rfl,aF (aK.of e) rfl ⟨_,rfl,_,rfl,v,o,b,g,op,bx,rfl,hg,ho,hb,hok.1,by lia,_,rfl,?_⟩⟩;have q':Q (.bl (g.holds op bx||h.holds op bx)) H:=q;refine oR (fun c=>?_) (fun c=>?_)
  ·rw[c,Bool.true_or]at q';exact q'
  ·rw[Bool.eq_false_iff.mpr c,Bool.false_or]at q';exact⟨_,rfl,aF (aK.of e) rfl ⟨_,rfl,_,rfl,u,o,b,h,op,bx,rfl,hh,ho,hb,hok.2,by lia,q'⟩⟩
theorem Ht{f:Addr}{fd:FuncData}:aM P w K mg base aW 0 f fd ["guard","opening","boxes"] (kO 0):=by
 have no:∀ vs H Q E,¬ kO 0 vs H Q E:=fun vs H Q E h=>by
  refine aJ fun G_ g_=>?_;obtain⟨vg,o,b,g,op,bx,_,_,_,_,_,h2,_⟩:=h;apply g_;clear g_ G_;have:=g.Yd;lia
 exact⟨fun vs H Q E h=>absurd h (no vs H Q E),fun A outer s H args us vs Q E _ _ _ _ h=>absurd h (no vs H Q E)⟩
theorem zy{f:Addr}{fd:FuncData}(F:cY K "holds" "holds" mO f fd)(ux:Binds K fd ["guard","opening","boxes"] [])(um:mg "holds" = some (.ref f)):∀ n:Nat,aM P w K mg base aW n f fd ["guard","opening","boxes"] (kO n)
 | 0=>Ht
 | n+1=>Qd F ⟨zy F ux um n,ux,F.kp,um⟩
end
end K02
namespace GP
open PySem L2 pQ rG
inductive Al{α:Type}(R:V->α->Prop):List V->List α->Prop where
 | nil:Al R [] []
 | cons {v:V} {r:α} {vs:List V} {rs:List α}:R v r->Al R vs rs->Al R (v::vs) (r::rs)
theorem Al.mono{α:Type}{R R':V->α->Prop}{vs:List V}{rs:List α}(x:Al R vs rs)(k:∀ v r,R v r->R' v r):Al R' vs rs:=by
 induction x with
 | nil=>exact .nil
 | cons h _ ih=>exact .cons (k _ _ h) ih
theorem Al.length{α:Type}{R:V->α->Prop}{vs:List V}{rs:List α}(x:Al R vs rs):vs.length=rs.length:=by
 induction x with
 | nil=>rfl
 | cons _ _ ih=>rw[dz,dz,ih]
theorem Al.snoc{α:Type}{R:V->α->Prop}{vs:List V}{rs:List α}{v:V}{r:α}(x:Al R vs rs)(y:R v r):Al R (vs++[v]) (rs++[r]):=by
 induction x with
 | nil=>exact .cons y .nil
 | cons h _ ih=>exact .cons h ih
theorem Al.get{α:Type}{R:V->α->Prop}{vs:List V}{rs:List α}(x:Al R vs rs):∀ {k:Nat} {r:α},rs[k]? = some r->∃ v,vs[k]? = some v/\R v r:=by
 induction x with
 | nil=>intro k r h;simp at h
 | cons h _ ih=>
  intro k r e
  cases k with
  | zero=>
   simp at e;subst e;exact⟨_,rfl,h⟩
  | succ k=>exact ih (by simpa using e)
structure Dg where
 room:Int
 ev:Int
 g:Gd
noncomputable def Vz(H:Hp)(v:V)(d:Dg):Prop:=∃(a:Addr)(gv x3 x4 x5:V),v = .ref a/\H a=some (.tup [.int d.room,.int d.ev,gv,x3,x4,x5])/\jc H gv d.g
noncomputable def hit(op bx:List Int)(room ev:Int)(d:Dg):Bool:=decide (V.int d.room=V.int room)&&(decide (V.int d.ev=V.int ev)&&d.g.holds op bx)
noncomputable def fst(op bx:List Int)(room ev:Int):List Dg->Nat->Option Nat
 | [],_=>none
 | d::r,b=>if hit op bx room ev d=true then some b else fst op bx room ev r (b+1)
theorem Fb(op bx:List Int)(room ev:Int)(d:Dg):∀(ds:List Dg)(b:Nat),fst op bx room ev (ds++[d]) b=match fst op bx room ev ds b with
  | some k=>some k
  | none=>if hit op bx room ev d=true then some (b+ds.length) else none
 | [],b=>by
  show (if hit op bx room ev d=true then some b else none)=_;rfl
 | x::ds,b=>by
  show (if hit op bx room ev x=true then some b else fst op bx room ev (ds++[d]) (b+1))=match (if hit op bx room ev x=true then some b else fst op bx room ev ds (b+1)) with
   | some k=>some k
   | none=>if hit op bx room ev d=true then some (b+(ds.length+1)) else none
  by_cases h:hit op bx room ev x=true
  ·rw[if_pos h,if_pos h]
  ·rw[if_neg h,if_neg h,Fb op bx room ev d ds (b+1),show b+1+ds.length=b+(ds.length+1) by lia]
noncomputable def dD(op bx:List Int)(ds:List Dg)(room ev:Int):Option Nat:=if inV (.int room) (op.map V.int)=true then fst op bx room ev ds 0 else none
theorem Ft(op bx:List Int)(ds:List Dg)(d:Dg)(room ev:Int):dD op bx (ds++[d]) room ev=if inV (.int room) (op.map V.int)=true/\dD op bx ds room ev=none/\hit op bx room ev d=true then some ds.length else dD op bx ds room ev:=by
 unfold dD
 by_cases h:inV (.int room) (op.map V.int)=true
 ·rw[if_pos h,if_pos h,Fb,Nat.zero_add]
  cases fst op bx room ev ds 0 with
  | some k=>
   show some k=if _ then _ else some k;rw[if_neg (fun z=>by cases z.2.1)]
  | none=>
   show (if hit op bx room ev d=true then some ds.length else none)=if (inV (.int room) (op.map V.int)=true/\(none:Option Nat)=none/\hit op bx room ev d=true) then some ds.length else none
   by_cases y:hit op bx room ev d=true
   ·rw[if_pos y,if_pos ⟨h,rfl,y⟩]
   ·rw[if_neg y,if_neg (fun z=>y z.2.2)]
 ·rw[if_neg h,if_neg h,if_neg (fun z=>h z.1)]
theorem tG(os:List Int):(os.map V.int).all mj=true:=by
 rw[List.all_eq_true];intro x hx;obtain⟨n,_,rfl⟩:=eQ.mp hx;rfl
noncomputable def yX(n:Nat):Sp:=fun vs H Q _ => ∃(pc Du pd o b:Addr)(op bx:List Int)(ds:List Dg)(dv:List V)(x0 x1 x2 x3 x4 x5 x:V)(ev:Int),vs=[.ref pc,.ref Du,.int ev]/\H pc=some (.tup [x0,x1,x2,x3,x4,x5,.ref pd])/\H pd=some (.tup dv)/\Al (Vz H) dv ds/\H Du=some (.tup [.ref o,.ref b,x])/\H o=some (.tup (op.map V.int))/\H b=some (.tup (bx.map V.int))/\(∀ d∈ds,d.g.ok bx.length/\d.g.ht<=n)/\ds.length<=1000 ∧
 ∀(p:Addr)(kvs:List (Key×V))(H':Hp),aG H H'->H' p=some (.dK kvs)->(∀ r:Int,cG kvs (Sum.inl r)=(dD op bx ds r ev).map fun k:Nat=>V.int (k:Int))->(∃ ks:List Int,kvs.map (·.1)=ks.map Sum.inl/\ks.length<=ds.length)->H p=none->Q (.ref p) H'
section
variable{P:Program}{w:World}{K:bO}{mg:Str->Option Value}{base:Heap}
theorem fV:aH ["chart","stand","event","opening","by_room","number","door","room"] ["chart","stand","event"] (aB qT):=eO
theorem Ho{n:Nat}{f gh:Addr}{fd dh:FuncData}(F:cY K "answers" "answers" qT f fd)(lN:Dp P w K mg base aW n gh dh ["guard","opening","boxes"] (K02.kO n) "holds")
  (Er:mg "enumerate" = none):aM P w K mg base aW (n+1) f fd ["chart","stand","event"] (yX n):=by
 refine F.ok fV (fun vs H Q E h=>?_) (fun cdv A outer s H vs Q E hr h=>?_)
 ·refine aJ fun G_ g_=>?_;obtain⟨pc,Du,pd,o,b,op,bx,ds,dv,x0,x1,x2,x3,x4,x5,x,ev,rfl,_⟩:=h;apply g_;clear g_ G_;rfl
 refine aJ fun G_ g_=>?_;obtain⟨pc,Du,pd,o,b,op,bx,ds,dv,x0,x1,x2,x3,x4,x5,x,ev,rfl,RB,hpd,hds,hst,ho,hb,hok,l1000,q⟩:=h;apply g_;clear g_ G_;have hu:=Nat.lt_of_le_of_lt (Nat.add_le_add_left (show 1<=64 by decide) _) hr.units
 refine⟨_,(zE (zK (i:=3) fV.nd rfl (Or.inl rfl) (yB zH (pv 1) zB (fun _ _=>rfl)))
  (zE (zK (i:=4) fV.nd rfl (Or.inl rfl) QF)
  (zZ (bU PassesOwn.never rfl (Ui rfl Er (zA (yB zH (pv 0) zB (fun _ _=>rfl)) zD)) (QC rfl (qZ (yJ (i:=5) fV.nd rfl (Or.inl rfl)) (qZ (yJ (i:=6) fV.nd rfl (Or.inl rfl)) K9)))
  (zE (zK (i:=7) fV.nd rfl (Or.inl rfl) (yB zH (pv 6) zB (fun _ _=>rfl)))
  (zG (yD (bc (PW.pt (pw_and (zL yG (yB zH (pv 6) zB (fun _ _=>rfl)) (pv 2) (zR _)) (pw_and (zL sX (pv 7) (pv 3) rfl) (pw_and (Q5 (M4 hu (pv 7) (pv 4))) (yP (dY (pC lN hr (zA (yB zH (pv 6) zB (fun _ _=>rfl)) (zA (pv 3) (zA (yB zH (pv 1) zB (fun _ _=>rfl)) zD)))))))))))
  (zG (Ue hu (pv 4) (pv 7) (pv 5) rfl))
  zT))))
  (zG (zO (pv 4)))))),?_⟩
 have ldv:=hds.length;refine⟨_,rfl,aF (aK.of hst) rfl (fun pb hpb=>?_)⟩;have s1:=zF hpb (.dK []);refine⟨fun σ' H'=>∃ kvs:List (Key×V),aG H H'/\H' pb=some (.dK kvs)/\(∀ r:Int,cG kvs (Sum.inl r)=(dD op bx ds r ev).map fun k:Nat=>V.int (k:Int))/\(∃ ks:List Int,kvs.map (·.1)=ks.map Sum.inl/\ks.length<=ds.length)/\∃ o5 o6 o7:Option V,σ'=[some (.ref pc),some (.ref Du),some (.int ev),some (.ref o),some (.ref pb),o5,o6,o7],?_,?_⟩
 ·refine⟨_,rfl,aF (aK.of (s1 _ _ RB)) rfl ⟨pd,rfl,⟨_,aK.of (s1 _ _ hpd)⟩,?_⟩⟩;refine RN (K:=K) (a:=pd) (xs:=dv) (fun i σ' H'=>∃ kvs:List (Key×V),aG H H'/\H' pb=some (.dK kvs)/\(∃ ks:List Int,kvs.map (·.1)=ks.map Sum.inl/\ks.length<=i)/\(∀ r:Int,cG kvs (Sum.inl r)=(dD op bx (ds.take i) r ev).map fun k:Nat=>V.int (k:Int))/\∃ o5 o6 o7:Option V,σ'=[some (.ref pc),some (.ref Du),some (.int ev),some (.ref o),some (.ref pb),o5,o6,o7])
   ⟨[],s1,zC,⟨[],rfl,bM _⟩,(fun r=>by
    unfold dD;rw[List.take_zero]
    split <;> rfl),_,_,_,rfl⟩ (fun i σ' H' _ ⟨_,s',_⟩=>aK.of (s' _ _ hpd)) ?_ ?_
  ·rintro i x' σ' H3 t1 hx ⟨kvs,s3,h3,⟨ks,hks,lks⟩,TV,o5,o6,o7,rfl⟩ ht1
   have l3:kvs.length<=i:=by
    have:=congrArg List.length hks;rw[bZ,bZ]at this;lia
   have hi:i<ds.length:=by
    have:=(lQ.mp hx).1;lia
   have ed:=gq hi;refine aJ fun G_ g_=>?_;obtain⟨v,hv,ad,gv,y3,y4,y5,rfl,had,hgd⟩:=hds.get ed;apply g_;clear g_ G_;rw[hv]at hx;obtain rfl:=jO hx;have hgk:=hok _ (je hi);generalize hdd:ds[i]=d at had hgd hgk ed
   have et:ds.take (i+1)=ds.take i++[d]:=by
    rw[j8,ed];rfl
   have elt:(ds.take i).length=i:=by
    rw[jP];lia
   have s4:=s3.trans (zF ht1 (.tup [.int (i:Int),.ref ad]));have h4:=(zF ht1 (.tup [.int (i:Int),.ref ad])) _ _ h3;refine⟨t1,_,rfl,aK.of zC,rfl,_,_,rfl,_,_,rfl,rfl,?_⟩;generalize upd H3 t1 (.tup [.int (i:Int),.ref ad])=H4 at s4 h4 ⊢;refine⟨_,rfl,aF (aK.of (s4 _ _ had)) rfl ?_⟩;refine⟨fun c H'=>H'=H4/\c=(decide (V.int d.ev=V.int ev)&&(inV (.int d.room) (op.map V.int)&&(!(cG kvs (Sum.inl d.room)).isSome&&d.g.holds op bx))),?_,?_⟩
   ·refine⟨_,rfl,aF (aK.of (s4 _ _ had)) rfl ⟨_,rfl,rfl,_,rfl,fH (fun c1=>?_) (fun c1=>⟨rfl,?_⟩)⟩⟩
    ·have c1:decide (V.int d.ev=V.int ev)=true:=c1;rw[c1,Bool.true_and];refine⟨_,rfl,_,rfl,iZ rfl (.inr (aK.of (s4 _ _ ho))) ⟨rfl,tG op,_,rfl,fH (fun c2=>?_) (fun c2=>⟨rfl,?_⟩)⟩⟩
     ·have c2:inV (.int d.room) (op.map V.int)=true:=c2;rw[c2,Bool.true_and];refine⟨_,rfl,_,rfl,pb,_,rfl,Cj.k (k:=Sum.inl d.room) h4,_,rfl,fH (fun c3=>?_) (fun c3=>⟨rfl,?_⟩)⟩
      ·rw[c3,Bool.true_and];exact⟨_,rfl,aF (aK.of (s4 _ _ had)) rfl ⟨_,rfl,_,rfl,aF (aK.of (s4 _ _ hst)) rfl ⟨gv,o,b,d.g,op,bx,rfl,hgd.mono (aA.of s4),s4 _ _ ho,s4 _ _ hb,hgk.1,hgk.2,_,rfl,rfl,rfl⟩⟩⟩
      ·rw[c3];rfl
     ·have c2:inV (.int d.room) (op.map V.int)=false:=c2;rw[c2];rfl
    ·have c1:decide (V.int d.ev=V.int ev)=false:=c1;rw[c1];rfl
   rintro c H5 ⟨rfl,hc⟩;refine fH (fun c1=>?_) (fun c1=>?_)
   ·rw[c1]at hc;have hc':=hc.symm;simp only[Bool.and_eq_true,Bool.not_eq_true']at hc';refine aJ fun G_ g_=>?_;obtain⟨e1,e2,e3,e4⟩:=hc';apply g_;clear g_ G_
    have e5:dD op bx (ds.take i) d.room ev=none:=by
     have:=TV d.room
     cases z:dD op bx (ds.take i) d.room ev with
     | none=>rfl
     | some k=>
      rw[z]at this;rw[this]at e3
      cases e3
    refine⟨_,rfl,_,rfl,_,rfl,pb,_,rfl,Sx.k (k:=Sum.inl d.room) h4 (zV (by lia)),putK kvs (Sum.inl d.room) (.int (i:Int)),cM hpb s4 _,zC,⟨ks++[d.room],by rw[Q4 _ (by have:=TV d.room;rw[e5]at this;exact this),List.map_append,List.map_append,hks];rfl,by rw[List.length_append];simp;lia⟩,fun r=>?_,_,_,_,rfl⟩;rw[Oa,et,Ft,elt]
    by_cases z:(Sum.inl r:Key)=Sum.inl d.room
    ·have z':r=d.room:=by injection z
     subst z'
     rw[if_pos rfl,if_pos ⟨e2,e5,by
      unfold hit;rw[decide_eq_true rfl,e1,e4]
      rfl⟩]
     rfl
    ·rw[if_neg z,if_neg (fun y=>z (by
      have y2:=y.2.2;unfold hit at y2;simp only[Bool.and_eq_true]at y2;have y3:=of_decide_eq_true y2.1;injection y3 with y4
      rw[y4]))]
     exact TV r
   ·rw[c1]at hc;refine⟨kvs,s4,h4,⟨ks,hks,by lia⟩,fun r=>?_,_,_,_,rfl⟩;rw[et,Ft,if_neg (fun y=>?_)]
    ·exact TV r
    ·refine aJ fun G_ g_=>?_;obtain⟨y1,y2,y3⟩:=y;apply g_;clear g_ G_;unfold hit at y3;simp only[Bool.and_eq_true]at y3;refine aJ fun G_ g_=>?_;obtain⟨z1,z2,z3⟩:=y3;apply g_;clear g_ G_;have z4:=of_decide_eq_true z1;injection z4 with z5;subst z5;have:=TV d.room;rw[y2]at this;rw[z2,y1,this,z3]at hc
     cases hc
  ·rintro σ' H3 aP;refine aJ fun G_ g_=>?_;obtain⟨kvs,s3,h3,⟨ks,hks,lks⟩,TV,r⟩:=aP;apply g_;clear g_ G_;rw[xK (by lia)]at TV;exact⟨kvs,s3,h3,TV,⟨ks,hks,by lia⟩,r⟩
 rintro σ' H3 aP;refine aJ fun G_ g_=>?_;obtain⟨kvs,s3,h3,TV,hks,o5,o6,o7,rfl⟩:=aP;apply g_;clear g_ G_;exact⟨_,rfl,q pb kvs H3 s3 h3 TV hks hpb⟩
end
end GP
namespace jY
open PySem L2 pQ rG CN
noncomputable def DQ:Sp:=fun vs H Q _ => ∃(t:Addr)(rs:List Rm)(k:Nat),vs=[.ref t,.int (k:Int)]/\cW H t rs/\rs.length<=40/\k<rs.length/\∀ e:Nat,Tr.Af (aD rs) k e->Q (.int (e:Int)) H
section
variable{P:Program}{w:World}{K:bO}{mg:Str->Option Value}{base:Heap}
theorem sJ:aH ["rooms","room","depth","other"] ["rooms","room"] (aB BZ):=eO
theorem Xv{f:Addr}{fd:FuncData}(F:cY K "end_of" "end_of" BZ f fd)(aY:mg "range" = none)(aR:mg "len" = none):aM P w K mg base aW 1 f fd ["rooms","room"] DQ:=by
 refine F.ok sJ (fun vs H Q E h=>?_) (fun cdv A outer s H vs Q E hr h=>?_)
 ·refine aJ fun G_ g_=>?_;obtain⟨t,rs,k,rfl,_⟩:=h;apply g_;clear g_ G_;rfl
 refine aJ fun G_ g_=>?_;obtain⟨t,rs,k,rfl,hR,oh,hk,q⟩:=h;apply g_;clear g_ G_
 refine⟨_,(zE (zK (i:=2) sJ.nd rfl (Or.inl rfl) (yB zH (yB zH (pv 0) (pv 1) (fun _ _=>rfl)) zB (fun _ _=>rfl)))
  (zZ (bU PassesOwn.never rfl (sW rfl aY (zA (yC yF (pv 1) zB) (zA (zS zN rfl aR cA (zA (pv 0) zD)) zD))) (yJ (i:=3) sJ.nd rfl (Or.inl rfl))
  (zG (yD (zL QR (yB zH (yB zH (pv 0) (pv 3) (fun _ _=>rfl)) zB (fun _ _=>rfl)) (pv 2) (zR _))
  (zG (zO (pv 3)))
  zT)))
  (zG (zO (zS zN rfl aR cA (zA (pv 0) zD)))))),?_⟩
 refine aJ fun G_ g_=>?_;obtain⟨vs,a,r,ht,hl,hr0,hat,ha⟩:=hR.at hk;apply g_;clear g_ G_;have ed:=iM hr0;have dl:=yV rs;refine⟨_,rfl,_,rfl,t,vs,_,_,rfl,rfl,aK.of ht,hat,aF (aK.of ha) rfl ?_⟩;refine⟨fun σ' H'=>H'=H/\Tr.Af (aD rs) k rs.length/\∃ o3:Option V,σ'=[some (.ref t),some (.int (k:Int)),some (.int r.depth),o3],?_,?_⟩
 ·refine⟨_,rfl,aq ⟨_,rfl,iZ rfl (.inr (aK.of ht)) ⟨_,_,rfl,⟨by lia,by lia,by lia,by lia⟩,?_⟩⟩⟩;refine cT (fun i σ' H'=>H'=H/\(∀ j,k<j->j<k+1+i->(aD rs).getD k 0<(aD rs).getD j 0)/\∃ o3:Option V,σ'=[some (.ref t),some (.int (k:Int)),some (.int r.depth),o3]) ⟨rfl,fun j j1 j2=>by lia,none,rfl⟩ ?_ ?_
  ·rintro i σ' H' hi aP;refine aJ fun G_ g_=>?_;obtain⟨rfl,hin,o3,rfl⟩:=aP
   have hj:k+1+i<rs.length:=by lia
   obtain⟨vs2,a2,r2,Kg,hl2,hr2,wM,ha2⟩:=hR.at hj;apply g_;clear g_ G_;rw[ht]at Kg
   cases Kg
   have Wh:=iM hr2
   have ej:(k:Int)+1+(i:Int)=((k+1+i:Nat):Int):=by lia
   refine⟨_,rfl,_,rfl,t,vs,_,_,rfl,rfl,aK.of ht,(by rw[ej];exact wM),aF (aK.of ha2) rfl ⟨_,rfl,aq ⟨_,rfl,?_⟩⟩⟩;refine oR (fun c=>?_) (fun c=>?_)
   ·have c':=of_decide_eq_true c;refine⟨_,rfl,?_⟩;have z:=q (k+1+i) ⟨by lia,by lia,hin,fun _=>by rw[Wh,ed];exact c'⟩;rw[<-ej]at z;exact z
   ·have c':¬ r2.depth<=r.depth:=fun z=>c (decide_eq_true z);refine⟨rfl,fun j j1 j2=>?_,_,rfl⟩
    by_cases y:j=k+1+i
    ·rw[y,Wh,ed];lia
    ·exact hin j j1 (by lia)
  ·rintro σ' H' aP;refine aJ fun G_ g_=>?_;obtain⟨rfl,hin,o3,rfl⟩:=aP;apply g_;clear g_ G_;exact⟨rfl,⟨hk,by lia,fun j j1 j2=>hin j j1 (by lia),fun z=>by lia⟩,o3,rfl⟩
 rintro σ' H' aP;refine aJ fun G_ g_=>?_;obtain⟨rfl,he,o3,rfl⟩:=aP;apply g_;clear g_ G_;refine⟨_,rfl,iZ rfl (.inr (aK.of ht)) ?_⟩;have z:=q _ he;rw[<-hl]at z;exact z
noncomputable def DK:Sp:=fun vs H Q _ => ∃(t:Addr)(rs:List Rm)(k:Nat),vs=[.ref t,.int (k:Int)]/\cW H t rs/\Tr.Good (aD rs)/\rs.length<=40/\k<rs.length/\∀ H',aG H H'->Q (pV (Tr.par (aD rs) k)) H'
theorem sI:aH ["rooms","room","depth","other"] ["rooms","room"] (aB uZ):=eO
theorem MF{f:Addr}{fd:FuncData}(F:cY K "parent" "parent" uZ f fd)(aY:mg "range" = none):aM P w K mg base aW 1 f fd ["rooms","room"] DK:=by
 refine F.ok sI (fun vs H Q E h=>?_) (fun cdv A outer s H vs Q E hr h=>?_)
 ·refine aJ fun G_ g_=>?_;obtain⟨t,rs,k,rfl,_⟩:=h;apply g_;clear g_ G_;rfl
 refine aJ fun G_ g_=>?_;obtain⟨t,rs,k,rfl,hR,good,oh,hk,q⟩:=h;apply g_;clear g_ G_
 refine⟨_,(zE (zK (i:=2) sI.nd rfl (Or.inl rfl) (yB zH (yB zH (pv 0) (pv 1) (fun _ _=>rfl)) zB (fun _ _=>rfl)))
  (zZ (bU PassesOwn.never rfl (Uj rfl aY (qES (yC lC (pv 1) zB) (qB2 (QD Gh zB) (qB2 (QD Gh zB) zD)))) (yJ (i:=3) sI.nd rfl (Or.inl rfl))
  (zG (yD (zL lR (yB zH (yB zH (pv 0) (pv 3) (fun _ _=>rfl)) zB (fun _ _=>rfl)) (pv 2) (zR _))
  (zG (zO (pv 3)))
  zT)))
  (zG (zO bf)))),?_⟩
 refine aJ fun G_ g_=>?_;obtain⟨vs,a,r,ht,hl,hr0,hat,ha⟩:=hR.at hk;apply g_;clear g_ G_;have ed:=iM hr0;refine⟨_,rfl,_,rfl,t,vs,_,_,rfl,rfl,aK.of ht,hat,aF (aK.of ha) rfl ?_⟩;refine⟨fun σ' H'=>H'=H/\Tr.par (aD rs) k=none,?_,?_⟩
 ·refine⟨_,rfl,aq ⟨_,rfl,_,rfl,(k:Int)-1,rfl,by lia,by lia,?_⟩⟩;refine RP (fun i σ' H'=>H'=H/\(∀ j,k<=j+i->j<k->(aD rs).getD k 0<=(aD rs).getD j 0)/\∃ o3:Option V,σ'=[some (.ref t),some (.int (k:Int)),some (.int r.depth),o3]) ⟨rfl,fun j j1 j2=>by lia,none,rfl⟩ ?_ ?_
  ·rintro i σ' H' hi aP;refine aJ fun G_ g_=>?_;obtain⟨rfl,hin,o3,rfl⟩:=aP
   have hi':i<k:=by lia
   have hj:k-1-i<rs.length:=by lia
   obtain⟨vs2,a2,r2,Kg,hl2,hr2,wM,ha2⟩:=hR.at hj;apply g_;clear g_ G_;rw[ht]at Kg
   cases Kg
   have Wh:=iM hr2
   have ej:(k:Int)-1-(i:Int)=((k-1-i:Nat):Int):=by lia
   refine⟨_,rfl,_,rfl,t,vs,_,_,rfl,rfl,aK.of ht,(by rw[ej];exact wM),aF (aK.of ha2) rfl ⟨_,rfl,aq ⟨_,rfl,?_⟩⟩⟩;refine oR (fun c=>?_) (fun c=>?_)
   ·have c':=of_decide_eq_true c;refine⟨_,rfl,?_⟩;have e:Tr.par (aD rs) k=some (k-1-i):=Tr.pI (by lia) (by rw[Wh,ed];exact c') fun j j1 j2=>hin j (by lia) j2;have z:=q _ (aG.refl _);rw[e]at z;rw[ej];exact z
   ·have c':¬ r2.depth<r.depth:=fun z=>c (decide_eq_true z);refine⟨rfl,fun j j1 j2=>?_,_,rfl⟩
    by_cases y:j=k-1-i
    ·rw[y,Wh,ed];lia
    ·exact hin j (by lia) j2
  ·rintro σ' H' aP;refine aJ fun G_ g_=>?_;obtain⟨rfl,hin,o3,rfl⟩:=aP;apply g_;clear g_ G_;exact⟨rfl,Tr.vp fun j hj=>hin j (by lia) hj⟩
 rintro σ' H' ⟨rfl,e⟩;have z:=q _ (aG.refl _);rw[e]at z;exact z
noncomputable def Gu:Sp:=fun vs H Q _ => ∃(t:Addr)(rs:List Rm)(one other:Nat),vs=[.ref t,.int (one:Int),.int (other:Int)]/\cW H t rs/\Tr.Good (aD rs)/\rs.length<=40/\one<rs.length/\other<rs.length/\∀ H',aG H H'->Q (.bl (Tr.bA (aD rs) one other)) H'
theorem HB:aH ["rooms","one","other"] ["rooms","one","other"] (aB uc):=eO
theorem V3{n:Nat}{f ge:Addr}{fd de:FuncData}(F:cY K "lies_in" "lies_in" uc f fd)(iz:Dp P w K mg base aW n ge de ["rooms","room"] DQ "end_of") :
  aM P w K mg base aW (n+1) f fd ["rooms","one","other"] Gu:=by
 refine F.ok HB (fun vs H Q E h=>?_) (fun cdv A outer s H vs Q E hr h=>?_)
 ·refine aJ fun G_ g_=>?_;obtain⟨t,rs,one,other,rfl,_⟩:=h;apply g_;clear g_ G_;rfl
 refine aJ fun G_ g_=>?_;obtain⟨t,rs,one,other,rfl,hR,good,oh,h1,h2,q⟩:=h;apply g_;clear g_ G_;have q':=q H (aG.refl _);have dl:=yV rs;refine⟨_,(zG (zO (QG lR lR (pv 2) (pv 1) (pC iz hr (zA (pv 0) (zA (pv 2) zD)))))),?_⟩;refine⟨_,rfl,_,rfl,aq ⟨_,rfl,?_⟩⟩;refine oR (fun c=>?_) (fun c=>?_)
 ·have c':=of_decide_eq_true c;refine⟨_,rfl,_,rfl,t,rs,other,rfl,hR,oh,h2,fun e he=>(aq ?_)⟩;rw[Tr.wF he (by lia),decide_eq_true (show other<one by lia),Bool.true_and]at q';have e2:decide (one<e)=decide ((one:Int)<(e:Int)):=decide_eq_decide.mpr (by lia);rw[e2]at q';exact q'
 ·have c':¬ (other:Int)<(one:Int):=fun z=>c (decide_eq_true z)
  have e1:Tr.bA (aD rs) one other=false:=by
   unfold Tr.bA;rw[Bool.eq_false_iff];intro z;have:=Tr.Ob (List.contains_iff_mem.mp z);lia
  rw[e1]at q';exact q'
end
end jY
namespace JN
open PySem L2 pQ rG CN
noncomputable def isOne(rs:List Rm)(x:Nat):Bool:=match rs[x]? with
 | some r=>decide (V.str r.kind=V.str "one")
 | none=>false
noncomputable def PB:Sp:=fun vs H Q _ => ∃(t:Addr)(rs:List Rm)(one other:Nat),vs=[.ref t,.int (one:Int),.int (other:Int)]/\cW H t rs/\Tr.Good (aD rs)/\rs.length<=40/\one<rs.length/\other<rs.length/\∀ H',aG H H'->Q (pV (Tr.hall (aD rs) (isOne rs) one other)) H'
noncomputable def hgt:Option Nat->Nat
 | none=>0
 | some j=>j+1
end JN
namespace jY
open PySem L2 pQ rG CN
section
variable{P:Program}{w:World}{K:bO}{mg:Str->Option Value}{base:Heap}
theorem Mx(ds:List Int)(f:Nat->Bool)(b:Nat)(k:Nat):Tr.hall ds f k b=match Tr.par ds k with
  | none=>none
  | some j=>if ((Tr.ups ds b).contains j&&f j)=true then some j else Tr.hall ds f j b:=by
 unfold Tr.hall
 cases e:Tr.par ds k with
 | none=>
  rw[Tr.v5 e];rfl
 | some j=>
  rw[Tr.q9 e,List.find?_cons];show _=if ((Tr.ups ds b).contains j&&f j)=true then some j else _
  cases h:((Tr.ups ds b).contains j&&f j) with
  | true=>rfl
  | false=>rfl
theorem kj:aH ["rooms","one","other","hall"] ["rooms","one","other"] (aB nY):=eO
theorem V6{n:Nat}{f gp gl:Addr}{fd dp dl':FuncData}(F:cY K "hall_over" "hall_over" nY f fd)(Fy:Dp P w K mg base aW n gp dp ["rooms","room"] DK "parent")
  (oN:Dp P w K mg base aW n gl dl' ["rooms","one","other"] Gu "lies_in") :
  aM P w K mg base aW (n+1) f fd ["rooms","one","other"] JN.PB:=by
 refine F.ok kj (fun vs H Q E h=>?_) (fun cdv A outer s H vs Q E hr h=>?_)
 ·refine aJ fun G_ g_=>?_;obtain⟨t,rs,one,other,rfl,_⟩:=h;apply g_;clear g_ G_;rfl
 refine aJ fun G_ g_=>?_;obtain⟨t,rs,one,other,rfl,hR,good,oh,h1,h2,q⟩:=h;apply g_;clear g_ G_
 refine⟨_,(zE (zK (i:=3) kj.nd rfl (Or.inl rfl) (pC Fy hr (zA (pv 0) (zA (pv 1) zD))))
  (zZ (mQ PassesOwn.never (zL Ut (pv 3) bf (zR _))
  (zE (yD (bc (PW.pt (pw_and (zL yG (yB zH (yB zH (pv 0) (pv 3) (fun _ _=>rfl)) zB (fun _ _=>rfl)) zP (zR _)) (yP (dY (pC oN hr (zA (pv 0) (zA (pv 2) (zA (pv 3) zD)))))))))
  (zG (zO (pv 3)))
  zT)
  (zG (zK (i:=3) kj.nd rfl (Or.inl rfl) (pC Fy hr (zA (pv 0) (zA (pv 3) zD)))))))
  (zG (zO bf)))),?_⟩
 refine⟨_,rfl,_,rfl,t,rs,one,rfl,hR,good,oh,h1,fun H1 s1=>?_⟩;refine⟨fun σ' H'=>aG H H'/\Tr.hall (aD rs) (JN.isOne rs) one other=none,?_,?_⟩
 ·refine⟨fun m σ' H'=>∃ k:Nat,k<rs.length/\m=JN.hgt (Tr.par (aD rs) k)/\aG H H'/\Tr.hall (aD rs) (JN.isOne rs) one other=Tr.hall (aD rs) (JN.isOne rs) k other/\σ'=[some (.ref t),some (.int (one:Int)),some (.int (other:Int)),some (pV (Tr.par (aD rs) k))],⟨_,one,h1,rfl,s1,rfl,rfl⟩,?_⟩;rintro m σ' H' aP;refine aJ fun G_ g_=>?_;obtain⟨k,hk,rfl,s2,hh,rfl⟩:=aP;apply g_;clear g_ G_;have hs:=Mx (aD rs) (JN.isOne rs) other k
  cases e:Tr.par (aD rs) k with
  | none=>
   rw[e]at hs;exact⟨_,rfl,rfl,_,rfl,qp rfl ⟨s2,hh.trans hs⟩⟩
  | some j=>
   rw[e]at hs;have hj:j<rs.length:=Nat.lt_trans (Tr.mU e) hk;have hR2:=hR.mono (aA.of s2);refine aJ fun G_ g_=>?_;obtain⟨vs,a,r,ht,hl,hr0,hat,ha⟩:=hR2.at hj;apply g_;clear g_ G_
   have io:JN.isOne rs j=decide (V.str r.kind=V.str "one"):=by
    unfold JN.isOne;rw[hr0]
   refine⟨_,rfl,rfl,_,rfl,O5 rfl ?_⟩;refine⟨fun σ' H2=>aG H H2/\Tr.hall (aD rs) (JN.isOne rs) one other=Tr.hall (aD rs) (JN.isOne rs) j other/\σ'=[some (.ref t),some (.int (one:Int)),some (.int (other:Int)),some (pV (Tr.par (aD rs) j))],?_,?_⟩
   ·rintro σ' H2 aP;refine aJ fun G_ g_=>?_;obtain⟨s3,hh2,rfl⟩:=aP;apply g_;clear g_ G_;refine⟨JN.hgt (Tr.par (aD rs) j),?_,j,hj,rfl,s3,hh2,rfl⟩
    cases e2:Tr.par (aD rs) j with
    | none=>show 0<j+1;lia
    | some i=>have:=Tr.mU e2;show i+1<j+1;lia
   ·refine⟨fun b H2=>aG H' H2/\b=((Tr.ups (aD rs) other).contains j&&JN.isOne rs j),?_,?_⟩
    ·refine⟨_,rfl,_,rfl,t,vs,_,_,rfl,rfl,aK.of ht,hat,aF (aK.of ha) rfl ⟨rfl,_,rfl,?_⟩⟩;refine oR (fun c=>?_) (fun c=>?_)
     ·refine⟨_,rfl,_,rfl,_,rfl,t,rs,other,j,rfl,hR2,good,oh,h2,hj,fun H2 s3=>⟨_,rfl,s3,?_⟩⟩;rw[io,c,Bool.and_true];rfl
     ·refine⟨aG.refl _,?_⟩;rw[io,Bool.eq_false_iff.mpr c,Bool.and_false]
    ·rintro b H2 ⟨s3,rfl⟩;refine oR (fun c=>?_) (fun c=>?_)
     ·refine⟨_,rfl,?_⟩;have z:=q H2 (s2.trans s3);rw[hh,hs]at z;simp only[c,if_true]at z;exact z
     ·refine⟨_,rfl,_,rfl,t,rs,j,rfl,hR.mono (aA.of (s2.trans s3)),good,oh,hj,fun H3 s4=>⟨(s2.trans s3).trans s4,?_,rfl⟩⟩;rw[hh,hs];simp only[c,if_false];rfl
 rintro σ' H' ⟨s2,e⟩;have z:=q _ s2;rw[e]at z;exact z
noncomputable def P0:Sp:=fun vs H Q _ => ∃(t:Addr)(rs:List Rm)(k:Nat),vs=[.ref t,.int (k:Int)]/\cW H t rs/\Tr.Good (aD rs)/\rs.length<=40/\k<rs.length/\∀(p:Addr)(H':Hp),aG H H'->H p=none->H' p=some (.lst (aC (Tr.kids (aD rs) k)))->Q (.ref p) H'
theorem Jt:aH ["rooms","room","depth"] ["rooms","room"] (aB Df):=eO
theorem V4{n:Nat}{f ge:Addr}{fd de:FuncData}(F:cY K "kids" "kids" Df f fd)(iz:Dp P w K mg base aW n ge de ["rooms","room"] DQ "end_of")(aY:mg "range" = none) :
  aM P w K mg base aW (n+1) f fd ["rooms","room"] P0:=by
 refine F.ok Jt (fun vs H Q E h=>?_) (fun cdv A outer s H vs Q E hr h=>?_)
 ·refine aJ fun G_ g_=>?_;obtain⟨t,rs,k,rfl,_⟩:=h;apply g_;clear g_ G_;rfl
 refine aJ fun G_ g_=>?_;obtain⟨t,rs,k,rfl,hR,good,oh,hk,q⟩:=h;apply g_;clear g_ G_
 refine⟨_,(zE (zK (i:=2) Jt.nd rfl (Or.inr rfl) (yC yF (yB zH (yB zH (pv 0) (pv 1) (fun _ _=>rfl)) zB (fun _ _=>rfl)) zB))
  (zG (zO (yT (aX:=[(2,"depth"),(0,"rooms")]) rfl (show bD (aB Df) ["rooms","room","depth"] _ _ _ from xN) (sW rfl aY (zA (yC yF (pv 1) zB) (zA (pC iz hr (zA (pv 0) (zA (pv 1) zD))) zD))) (fun _ _ _ _ _ _=>fG (zL yG (yB (r:=j9 K) zH (yB (r:=j9 K) zH (pv 2) (pv 0) (fun _ _=>rfl)) zB (fun _ _=>rfl)) (pv 1) (zR _))) (fun _ _ _ _ _ _=>(pv 0)))))),?_⟩
 refine aJ fun G_ g_=>?_;obtain⟨vs,a,r,ht,hl,hr0,hat,ha⟩:=hR.at hk;apply g_;clear g_ G_;have ed:=iM hr0;have dl:=yV rs;refine⟨_,rfl,_,rfl,t,vs,_,_,rfl,rfl,aK.of ht,hat,aF (aK.of ha) rfl (aq ?_)⟩;refine⟨_,rfl,aq ⟨_,rfl,_,rfl,t,rs,k,rfl,hR,oh,hk,fun e he=>?_⟩⟩;have Km:=he.lt;have he2:=he.le;refine⟨_,_,rfl,⟨by lia,by lia,by lia,by lia⟩,?_⟩;refine ir (fun i acc H'=>H'=H/\acc=aC (Tr.fZ (aD rs) k (k+1+i))) ⟨rfl,by rw[Tr.wH _ _ _ (by lia)];rfl⟩ (fun i acc H' hi ⟨e1,e2⟩=>?_) (fun acc H' ⟨e1,e2⟩ p hp=>?_)
 ·subst e1 e2
  have hj:k+1+i<rs.length:=by lia
  refine aJ fun G_ g_=>?_;obtain⟨vs2,a2,r2,Kg,hl2,hr2,wM,ha2⟩:=hR.at hj;apply g_;clear g_ G_;rw[ht]at Kg
  cases Kg
  have Wh:=iM hr2
  have ej:(k:Int)+1+(i:Int)=((k+1+i:Nat):Int):=by lia
  have pe:=Tr.KH good he (j:=k+1+i) (by lia);refine⟨_,rfl,_,rfl,t,vs,_,_,rfl,rfl,aK.of ht,(by rw[ej];exact wM),aF (aK.of ha2) rfl ⟨_,rfl,rfl,_,rfl,?_⟩⟩;refine oR (fun c=>?_) (fun c=>?_)
  ·have c':=of_decide_eq_true c;injection c' with c';refine⟨_,rfl,?_,rfl,?_⟩
   ·unfold aC;have:=Tr.Ie (aD rs) k (k+1+i);exact zV (by rw[bZ];lia)
   ·rw[show k+1+(i+1)=(k+1+i)+1 by lia,Tr.jF,if_pos (by rw[pe.mpr ⟨by lia,by lia,by rw[Wh,ed];exact c'⟩];simp),ej];unfold aC;rw[jd];rfl
  ·refine⟨rfl,?_⟩;rw[show k+1+(i+1)=(k+1+i)+1 by lia,Tr.jF,if_neg,gQ];intro z;have y:=(pe.mp (eq_of_beq z)).2.2;rw[Wh,ed]at y;exact c (decide_eq_true (by rw[y]))
 ·subst e1 e2;refine q p _ (zF hp _) hp ?_;rw[zC,Tr.Qy good he,show k+1+((e:Int)-((k:Int)+1)).toNat=e by lia]
end
end jY
namespace JM
open PySem L2 pQ rG CN
noncomputable def under(ds:List Int)(o:Nat):Option Nat->Bool
 | none=>true
 | some u=>Tr.bA ds o u
noncomputable def jT(ds:List Int)(un:Option Nat)(os:List Nat):List Nat:=(os.filter fun o=>under ds o un).reverse
noncomputable def Ot:Sp:=fun vs H Q _ => ∃(t rO:Addr)(rs:List Rm)(un:Option Nat)(os:List Nat),vs=[.ref t,pV un,.ref rO]/\cW H t rs/\Tr.Good (aD rs)/\rs.length<=40/\(∀ u,un=some u->u<rs.length)/\H rO=some (.tup (aC os))/\(∀ o∈os,o<rs.length)/\os.length<=40/\os.Pairwise (· < ·) ∧
 ∀(p:Addr)(H':Hp),aG H H'->H p=none->H' p=some (.lst (aC (jT (aD rs) un os)))->Q (.ref p) H'
theorem Vb(k:Nat)(os:List Nat):inV (.int (k:Int)) (aC os)=decide (k∈os):=by
 rw[Bool.eq_iff_iff,decide_eq_true_iff];constructor
 ·intro h;obtain⟨o,ho,e⟩:=KQ h;rw[show k=o by lia];exact ho
 ·intro h;unfold inV aC;rw[List.any_map,List.any_eq_true];exact⟨k,h,by simp [Tc]⟩
end JM
namespace jY
open PySem L2 pQ rG CN
section
variable{P:Program}{w:World}{K:bO}{mg:Str->Option Value}{base:Heap}
theorem oW:aH ["rooms","under","opening","end"] ["rooms","under","opening"] (aB Pn):=eO
theorem xV{n:Nat}{f ge:Addr}{fd de:FuncData}(F:cY K "goings_out" "goings_out" Pn f fd)(iz:Dp P w K mg base aW n ge de ["rooms","room"] DQ "end_of")(dR:mg "sorted" = none) :
  aM P w K mg base aW (n+1) f fd ["rooms","under","opening"] JM.Ot:=by
 refine F.ok oW (fun vs H Q E h=>?_) (fun cdv A outer s H vs Q E hr h=>?_)
 ·refine aJ fun G_ g_=>?_;obtain⟨t,rO,rs,un,os,rfl,_⟩:=h;apply g_;clear g_ G_;rfl
 refine aJ fun G_ g_=>?_;obtain⟨t,rO,rs,un,os,rfl,hR,good,oh,hun,hto,hos,ZX,inc,q⟩:=h;apply g_;clear g_ G_
 refine⟨_,(zE (yD (zL jU (pv 1) bf (zR _))
  (zG (zO (vh rfl dR (zA (pv 2) zD))))
  zT)
  (zE (zK (i:=3) oW.nd rfl (Or.inr rfl) (pC iz hr (zA (pv 0) (zA (pv 1) zD))))
  (zG (zO (vh rfl dR (zA (yT (aX:=[(1,"under"),(3,"end")]) rfl (show bD (aB Pn) ["rooms","under","opening","end"] _ _ _ from xN) (pG (pv 2)) (fun _ _ _ _ _ _=>fG (Q6 lR lR (pv 1) (pv 0) (pv 2))) (fun _ _ _ _ _ _=>(pv 0))) zD)))))),?_⟩
 have dl:=yV rs
 cases un with
 | none=>
  refine⟨_,rfl,rfl,_,rfl,O5 rfl ⟨_,rfl,rO,_,rfl,.inr (aK.of (by rw[<-cR];exact hto)),by rw[bZ];lia,fun p rs' hp perm Ol=>?_⟩⟩;have e:=tW perm Ol inc;subst e;refine q p _ (zF hp _) hp ?_;rw[zC];show some (HO.lst _)=some (HO.lst (aC (JM.jT (aD rs) none os)))
  rw[show JM.jT (aD rs) none os=os.reverse by
   unfold JM.jT
   rw[(List.filter_eq_self (p:=fun o=>JM.under (aD rs) o none)).mpr fun _ _=>rfl],<-cR]
  rfl
 | some u=>
  have hu:=hun u rfl;refine⟨_,rfl,rfl,_,rfl,qp rfl ⟨_,rfl,_,rfl,t,rs,u,rfl,hR,oh,hu,fun e he=>?_⟩⟩;refine⟨_,rfl,rO,rfl,⟨_,aK.of hto⟩,?_⟩;refine mq (K:=K) (a:=rO) (xs:=aC os) (fun i acc H'=>H'=H/\acc=aC ((os.take i).filter fun o=>Tr.bA (aD rs) o u)) ⟨rfl,rfl⟩ (fun i acc H' ⟨e,_⟩=>by subst e;exact aK.of hto) (fun i x acc H' hx ⟨e1,e2⟩=>?_) (fun acc H' ⟨e1,e2⟩ p hp=>?_)
  ·subst e1 e2;obtain⟨hi,rfl⟩:=yR hx;have ho:=hos _ (je hi);have el:=Tr.wF he (a:=os[i]) (by lia);refine⟨_,rfl,_,rfl,_,_,(e:Int),rfl,rfl,⟨_,rfl,rfl,rfl⟩,_,rfl,?_⟩
   have ec:(decide ((u:Int)<((os[i]:Nat):Int))&&decide (((os[i]:Nat):Int)<(e:Int)))=Tr.bA (aD rs) os[i] u:=by
    rw[el];congr 1
    ·exact decide_eq_decide.mpr (by lia)
    ·exact decide_eq_decide.mpr (by lia)
   rw[gJ (gq hi)];have ll:=rT (fun o=>Tr.bA (aD rs) o u) (os.take i);rw[jP]at ll;refine fH (fun c=>?_) (fun c=>?_)
   ·have c':Tr.bA (aD rs) os[i] u=true:=ec.symm.trans c;rw[if_pos c',<-iJ];exact⟨_,rfl,zV (by rw[zU];lia),rfl,rfl⟩
   ·have c':Tr.bA (aD rs) os[i] u=false:=ec.symm.trans c;rw[if_neg (by rw[c'];exact pZ),gQ];exact⟨rfl,rfl⟩
  subst e1 e2;rw[xK (by rw[zU];exact bM _)];have ll:=rT (fun o=>Tr.bA (aD rs) o u) os;refine⟨p,_,rfl,.inl (aQ.of (by rw[zC];unfold aC;rw[cR])),by rw[bZ];lia,fun p2 rs' hp2 perm Ol=>?_⟩;have e:=tW perm Ol (inc.filter _);subst e;refine q p2 _ ((zF hp _).trans (zF hp2 _)) ((zF hp _).free hp2) ?_;rw[zC,<-cR];rfl
noncomputable def kindAt(rs:List Rm)(p:Nat):Str:=(rs.map (·.kind)).getD p ("" : Str)
theorem KZ{rs:List Rm}{p:Nat}{r:Rm}(h:rs[p]? = some r):kindAt rs p=r.kind:=by
 unfold kindAt;rw[lX,gf,h];rfl
noncomputable def Nj(rs:List Rm)(p:Nat):Bool:=decide (kindAt rs p=("all" : Str))
noncomputable def oM(H:Hp)(pg:Addr)(rs:List Rm)(gs:List Nat):Prop:=H pg=some (.lst (aC gs))/\(∀ g∈gs,g<rs.length)/\gs.length<=100
theorem oM.mono{H H':Hp}{pg:Addr}{rs:List Rm}{gs:List Nat}(h:oM H pg rs gs)(s:aG H H'):oM H' pg rs gs:=⟨s _ _ h.1,h.2⟩
noncomputable def Jp:Sp:=fun vs H Q _ => ∃(t pg:Addr)(rs:List Rm)(k:Nat)(gs:List Nat),vs=[.ref t,.int (k:Int),.ref pg]/\cW H t rs/\rs.length<=40/\k<rs.length/\oM H pg rs gs/\∀ H',aG H H'->Q (.bl (Tr.bears (aD rs) gs k)) H'
noncomputable def Ou:Sp:=fun vs H Q _ => ∃(t pg:Addr)(rs:List Rm)(k:Nat)(gs:List Nat),vs=[.ref t,.int (k:Int),.ref pg]/\cW H t rs/\Tr.Good (aD rs)/\rs.length<=40/\k<rs.length/\oM H pg rs gs ∧
 ∀(p:Addr)(H':Hp),aG H H'->H p=none->H' p=some (.lst (aC (Tr.next (aD rs) (Nj rs) gs k)))->Q (.ref p) H'
noncomputable def XD:Sp:=fun vs H Q _ => ∃(t pg:Addr)(rs:List Rm)(un:Option Nat)(gs:List Nat),vs=[.ref t,pV un,.ref pg]/\cW H t rs/\Tr.Good (aD rs)/\rs.length<=40/\(∀ u,un=some u->u<rs.length)/\oM H pg rs gs ∧
 ∀(p:Addr)(ms:List Nat)(H':Hp),aG H H'->H p=none->H' p=some (.lst (aC ms))->Tr.Td (aD rs) (Nj rs) gs un ms->Q (.ref p) H'
theorem oX:aH ["rooms","room","goals","end"] ["rooms","room","goals"] (aB vR):=eO
theorem xW{n:Nat}{f ge:Addr}{fd de:FuncData}(F:cY K "bears_goal" "bears_goal" vR f fd)(iz:Dp P w K mg base aW n ge de ["rooms","room"] DQ "end_of")(KR:mg "any" = none) :
  aM P w K mg base aW (n+1) f fd ["rooms","room","goals"] Jp:=by
 refine F.ok oX (fun vs H Q E h=>?_) (fun cdv A outer s H vs Q E hr h=>?_)
 ·refine aJ fun G_ g_=>?_;obtain⟨t,pg,rs,k,gs,rfl,_⟩:=h;apply g_;clear g_ G_;rfl
 refine aJ fun G_ g_=>?_;obtain⟨t,pg,rs,k,gs,rfl,hR,oh,hk,hG,q⟩:=h;apply g_;clear g_ G_
 refine⟨_,(zE (zK (i:=3) oX.nd rfl (Or.inr rfl) (pC iz hr (zA (pv 0) (zA (pv 1) zD))))
  (zG (zO (zS (tO rfl) rfl KR PyProof.Rows.boot_any (zA (yT (aX:=[(1,"room"),(3,"end")]) rfl (show bD (aB vR) ["rooms","room","goals","end"] _ _ _ from xN) (yM (pv 2)) (fun _ _ _ _ _ _=>cD) (fun _ _ _ _ _ _=>(Xg QR lR (pv 1) (pv 0) (pv 2)))) zD))))),?_⟩
 refine aJ fun G_ g_=>?_;obtain⟨hg,hgl,hg100⟩:=hG;apply g_;clear g_ G_;have dl:=yV rs;refine⟨_,rfl,_,rfl,t,rs,k,rfl,hR,oh,hk,fun e he=>?_⟩;refine⟨_,rfl,pg,rfl,⟨_,aQ.of hg⟩,?_⟩;refine yS (K:=K) (a:=pg) (xs:=aC gs) (fun i acc H'=>H'=H/\acc=((gs.take i).map fun g:Nat=>(decide ((k:Int)<=(g:Int))&&decide ((g:Int)<(e:Int)))).map V.bl) ⟨rfl,rfl⟩ (fun i acc H' ⟨e,_⟩=>by subst e;exact aQ.of hg) (fun i x acc H' hx ⟨e1,e2⟩=>?_) (fun acc H' ⟨e1,e2⟩ p hp=>?_)
 ·subst e1 e2;obtain⟨hi,rfl⟩:=yR hx;refine⟨_,rfl,_,rfl,_,_,(e:Int),rfl,rfl,⟨_,rfl,rfl,rfl⟩,zV (by rw[bZ,bZ,jP];lia),rfl,?_⟩;rw[j8,gq hi,jd,jd];rfl
 subst e1 e2;rw[xK (by rw[zU];exact bM _)];refine⟨p,_,rfl,aQ.of zC,?_⟩;have z:=q (upd H' p (.lst ((gs.map fun g:Nat=>(decide ((k:Int)<=(g:Int))&&decide ((g:Int)<(e:Int)))).map V.bl))) (zF hp _)
 have ee:(gs.map fun g:Nat=>(decide ((k:Int)<=(g:Int))&&decide ((g:Int)<(e:Int)))).any id=Tr.bears (aD rs) gs k:=by
  unfold Tr.bears;rw[List.any_map,Bool.eq_iff_iff,List.any_eq_true,List.any_eq_true];have Km:=he.lt
  have pt:∀ g∈gs,((id ∘ fun g:Nat=>(decide ((k:Int)<=(g:Int))&&decide ((g:Int)<(e:Int)))) g=true↔(g==k||Tr.bA (aD rs) g k)=true):=fun g hg'=>by
   have:=hgl g hg';rw[Tr.wF he (by lia)];show (decide ((k:Int)<=(g:Int))&&decide ((g:Int)<(e:Int)))=true↔_;rw[Bool.or_eq_true,Bool.and_eq_true,Bool.and_eq_true,decide_eq_true_iff,decide_eq_true_iff,decide_eq_true_iff,decide_eq_true_iff,beq_iff_eq];lia
  exact⟨fun ⟨g,a,b⟩=>⟨g,a,(pt g a).mp b⟩,fun ⟨g,a,b⟩=>⟨g,a,(pt g a).mpr b⟩⟩
 rw[ee];exact z
theorem pB:aH ["rooms","room","goals","own","kid"] ["rooms","room","goals"] (aB Ju):=eO
theorem Hh{n:Nat}{f gk gb:Addr}{fd dk db:FuncData}(F:cY K "next_in" "next_in" Ju f fd)
  (ZF:Dp P w K mg base aW n gk dk ["rooms","room"] P0 "kids")
  (Ci:Dp P w K mg base aW n gb db ["rooms","room","goals"] Jp "bears_goal") :
  aM P w K mg base aW (n+1) f fd ["rooms","room","goals"] Ou:=by
 refine F.ok pB (fun vs H Q E h=>?_) (fun cdv A outer s H vs Q E hr h=>?_)
 ·refine aJ fun G_ g_=>?_;obtain⟨t,pg,rs,k,gs,rfl,_⟩:=h;apply g_;clear g_ G_;rfl
 refine aJ fun G_ g_=>?_;obtain⟨t,pg,rs,k,gs,rfl,hR,good,oh,hk,hG,q⟩:=h;apply g_;clear g_ G_
 refine⟨_,(zE (zK (i:=3) pB.nd rfl (Or.inl rfl) (pC ZF hr (zA (pv 0) (zA (pv 1) zD))))
  (zE (yD (zL yG (yB zH (yB zH (pv 0) (pv 1) (fun _ _=>rfl)) zB (fun _ _=>rfl)) zP (zR _))
  (zG (zO (pv 3)))
  zT)
  (zZ (bU PassesOwn.never rfl (yM (pv 3)) (yJ (i:=4) pB.nd rfl (Or.inl rfl))
  (zG (yD (dY (pC Ci hr (zA (pv 0) (zA (pv 4) (zA (pv 2) zD)))))
  (zG (zO (yK (zA (pv 4) zD))))
  zT)))
  (zG (zO (jo Jq (pv 3) ni (nZ zB))))))),?_⟩
 refine aJ fun G_ g_=>?_;obtain⟨vs,a,r,ht,hl,hr0,hat,ha⟩:=hR.at hk;apply g_;clear g_ G_;have dl:=yV rs;refine⟨_,rfl,_,rfl,t,rs,k,rfl,hR,good,oh,hk,fun po H1 s1 npo hpo=>?_⟩;refine⟨_,rfl,_,rfl,t,vs,_,_,rfl,rfl,aK.of (s1 _ _ ht),hat,aF (aK.of (s1 _ _ ha)) rfl ⟨rfl,_,rfl,?_⟩⟩
 have eal:Nj rs k=decide (V.str r.kind=V.str ("all" : Str)):=by
  unfold Nj;rw[KZ hr0];exact decide_eq_decide.mpr ⟨fun z=>by rw[z],fun z=>by injection z⟩
 refine fH (fun c=>?_) (fun c=>?_)
 ·refine⟨_,rfl,q po H1 s1 npo ?_⟩;rw[Tr.Qp (eal.trans c)];exact hpo
 have nal:Nj rs k=false:=eal.trans c
 have kl:∀ x∈Tr.kids (aD rs) k,x<rs.length:=fun x hx=>by
  have:=(Tr.wD.mp hx).1;lia
 have eN:Tr.next (aD rs) (Nj rs) gs k=match (Tr.kids (aD rs) k).find? (Tr.bears (aD rs) gs) with
   | some j=>[j]
   | none=>(Tr.kids (aD rs) k).take 1:=by
  unfold Tr.next;rw[if_neg (by rw[nal];exact pZ)]
  all_goals (cases (Tr.kids (aD rs) k).find? (Tr.bears (aD rs) gs) <;> rfl)
 generalize hks:Tr.kids (aD rs) k=ks at hpo kl eN;refine⟨fun σ' H'=>aG H1 H'/\(∀ x∈ks,Tr.bears (aD rs) gs x=false)/\∃ o4:Option V,σ'=[some (.ref t),some (.int (k:Int)),some (.ref pg),some (.ref po),o4],?_,?_⟩
 ·refine⟨_,rfl,po,rfl,⟨_,aQ.of hpo⟩,?_⟩;refine fK (K:=K) (a:=po) (xs:=aC ks) (fun i σ' H'=>aG H1 H'/\(∀ x∈ks.take i,Tr.bears (aD rs) gs x=false)/\∃ o4:Option V,σ'=[some (.ref t),some (.int (k:Int)),some (.ref pg),some (.ref po),o4])
   ⟨aG.refl _,fun x hx=>(by rw[List.take_zero]at hx;cases hx),_,rfl⟩ (fun i σ' H' _ ⟨s2,_⟩=>aQ.of (s2 _ _ hpo)) ?_ ?_
  ·rintro j x σ' H2 hx aP;refine aJ fun G_ g_=>?_;obtain⟨s2,hno,o4,rfl⟩:=aP;obtain⟨hj,rfl⟩:=yR hx;apply g_;clear g_ G_;have hlt:=kl _ (je hj);refine⟨_,rfl,_,rfl,_,rfl,t,pg,rs,ks[j],gs,rfl,hR.mono (aA.of (s1.trans s2)),oh,hlt,hG.mono (s1.trans s2),fun H3 s3=>⟨_,rfl,?_⟩⟩;refine fH (fun c=>?_) (fun c=>?_)
   ·refine⟨_,rfl,zI (by show 1<=1000;decide),fun p hp=>q p _ ((s1.trans (s2.trans s3)).trans (zF hp _)) ((s1.trans (s2.trans s3)).free hp) ?_⟩
    have ef:ks.find? (Tr.bears (aD rs) gs)=some ks[j]:=by
     rw[List.find?_eq_some_iff_getElem];exact⟨c,j,hj,rfl,fun i hi=>by rw[hno _ (by rw[List.mem_take_iff_getElem];exact⟨i,by lia,rfl⟩)];rfl⟩
    rw[zC,eN,ef];rfl
   ·refine⟨s2.trans s3,fun x hx=>?_,_,rfl⟩;rw[j8,gq hj]at hx;rcases cX.mp hx with h | h
    ·exact hno x h
    ·rw[cB.mp h];exact c
  ·rintro σ' H2 aP;refine aJ fun G_ g_=>?_;obtain⟨s2,hno,o4,rfl⟩:=aP;apply g_;clear g_ G_;rw[xK (by rw[zU];exact bM _)]at hno;exact⟨s2,hno,_,rfl⟩
 rintro σ' H2 aP;refine aJ fun G_ g_=>?_;obtain⟨s2,hno,o4,rfl⟩:=aP;apply g_;clear g_ G_;refine⟨_,rfl,_,rfl,po,_,rfl,aQ.of (s2 _ _ hpo),fun p hp=>q p _ ((s1.trans s2).trans (zF hp _)) ((s1.trans s2).free hp) ?_⟩
 have ef:ks.find? (Tr.bears (aD rs) gs)=none:=by
  rw[List.find?_eq_none];intro x hx;rw[hno x hx];exact pZ
 rw[zC,eN,ef,Ff _ (by decide)];show some (HO.lst ((aC ks).take 1))=some (HO.lst (aC (ks.take 1)));unfold aC;rw[List.map_take]
theorem iB:aH ["rooms","under","goals","ahead","gone","room"] ["rooms","under","goals"] (aB sIn):=eO
theorem Be{n:Nat}{f gn:Addr}{fd dn:FuncData}(F:cY K "goings_in" "goings_in" sIn f fd)
  (Ag:Dp P w K mg base aW n gn dn ["rooms","room","goals"] Ou "next_in")
  (aR:mg "len" = none) (dR:mg "sorted" = none):aM P w K mg base aW (n+1) f fd ["rooms","under","goals"] XD:=by
 refine F.ok iB (fun vs H Q E h=>?_) (fun cdv A outer s H vs Q E hr h=>?_)
 ·refine aJ fun G_ g_=>?_;obtain⟨t,pg,rs,un,gs,rfl,_⟩:=h;apply g_;clear g_ G_;rfl
 refine aJ fun G_ g_=>?_;obtain⟨t,pg,rs,un,gs,rfl,hR,good,oh,hun,hG,q⟩:=h;apply g_;clear g_ G_
 refine⟨_,(zE (zK (i:=3) iB.nd rfl (Or.inl rfl) (pH (Dy (zL jU (pv 1) bf (zR _)) (yK (zA zB zD)) (pC Ag hr (zA (pv 0) (zA (pv 1) (zA (pv 2) zD)))))))
  (zE (zK (i:=4) iB.nd rfl (Or.inl rfl) (yK zD))
  (zZ (mQ PassesOwn.never (zL jD (zS zN rfl aR cA (zA (pv 3) zD)) zB (zR _))
  (zE (zK (i:=5) iB.nd rfl (Or.inl rfl) (Xh j7 PySem.F.slot_list_pop PySem.F.type_list_pop Y5 (pv 3)))
  (zE (yI (dJ j7 pY pX yH (pv 4) (zA (pv 5) zD)))
  (zG (yI (dJ j7 PySem.F.slot_list_extend PySem.F.type_list_extend iK (pv 3) (zA (pC Ag hr (zA (pv 0) (zA (pv 5) (zA (pv 2) zD)))) zD)))))))
  (zG (zO (zS n6 rfl dR PyProof.Rows.boot_sorted (zA (pv 4) zD))))))),?_⟩
 have dl:=yV rs;have pos:=good.pos;refine⟨fun v H'=>∃(pa:Addr)(ah:List Nat),v = .ref pa/\aG H H'/\H pa=none/\H' pa=some (.lst (aC ah))/\Tr.nA (aD rs) (Nj rs) gs un [] ah,?_,?_⟩
 ·cases un with
  | none=>exact⟨_,rfl,rfl,_,rfl,O5 rfl ⟨zI (by show 1<=1000;decide),fun p hp=>⟨p,[0],rfl,zF hp _,hp,zC,Tr.nA.none _ _ _⟩⟩⟩
  | some u=>exact⟨_,rfl,rfl,_,rfl,qp rfl ⟨_,rfl,_,rfl,_,rfl,t,pg,rs,u,gs,rfl,hR,good,oh,hun u rfl,hG,fun p H1 s1 np hp=>⟨p,_,rfl,s1,np,hp,Tr.nA.some _ _ _ u⟩⟩⟩
 rintro _ H1 aP;refine aJ fun G_ g_=>?_;obtain⟨pa,ah,rfl,s1,npa,hpa,wk⟩:=aP;apply g_;clear g_ G_;refine⟨Nat.zero_le _,fun pn hpn=>?_⟩;have Xz:H pn=none:=s1.free hpn
 have ne:pn≠pa:=fun e=>by
  rw[e,hpa]at hpn
  cases hpn
 refine⟨fun σ' H'=>∃ gone:List Nat,aG H H'/\H' pn=some (.lst (aC gone))/\Tr.nA (aD rs) (Nj rs) gs un gone []/\∃ o5:Option V,σ'=[some (.ref t),some (pV un),some (.ref pg),some (.ref pa),some (.ref pn),o5],?_,?_⟩
 ·refine⟨fun m σ' H'=>∃(gone ahead:List Nat),m=rs.length-gone.length/\aG H H'/\H' pa=some (.lst (aC ahead))/\H' pn=some (.lst (aC gone))/\Tr.nA (aD rs) (Nj rs) gs un gone ahead/\∃ o5:Option V,σ'=[some (.ref t),some (pV un),some (.ref pg),some (.ref pa),some (.ref pn),o5],
   ⟨_,[],ah,rfl,s1.trans (zF hpn _),(zF hpn _) _ _ hpa,zC,wk,_,rfl⟩,?_⟩
  rintro m σ' H2 aP;refine aJ fun G_ g_=>?_;obtain⟨gone,ahead,rfl,s2,ha2,hn2,W3,o5,rfl⟩:=aP;apply g_;clear g_ G_;refine⟨_,rfl,iZ rfl (.inl (aQ.of ha2)) (aq ⟨_,rfl,?_⟩)⟩;refine fH (fun c=>?_) (fun c=>?_)
  ·have c':=of_decide_eq_true c;rw[zU]at c';have wl:=W3.len pos;refine aJ fun G_ g_=>?_
   obtain⟨a,r,rfl⟩:∃ a r,ahead=a++[r]:=by
    refine⟨ahead.dropLast,ahead.getLast (fun z=>by rw[z]at c';exact absurd c' (by decide)),(List.dropLast_concat_getLast _).symm⟩
   apply g_;clear g_ G_
   have hrl:r<rs.length:=by
    have:=(W3.ok r (by simp)).lt pos;lia
   rw[dW,gj]at wl;refine⟨fun σ' H'=>∃(RG S6:List Nat),RG.length=gone.length+1/\aG H H'/\H' pa=some (.lst (aC S6))/\H' pn=some (.lst (aC RG))/\Tr.nA (aD rs) (Nj rs) gs un RG S6/\∃ o5:Option V,σ'=[some (.ref t),some (pV un),some (.ref pg),some (.ref pa),some (.ref pn),o5],?_,?_⟩
   ·rintro σ' H3 aP;refine aJ fun G_ g_=>?_;obtain⟨g2,a2,hl,rest⟩:=aP;apply g_;clear g_ G_;exact⟨rs.length-g2.length,by lia,g2,a2,rfl,rest⟩
   refine⟨_,rfl,.inl ⟨rfl,_,aQ.of ha2⟩,pa,_,.int (r:Int),rfl,rfl,ha2,?_,?_⟩
   ·rw[<-iJ,dW,gj,Nat.add_sub_cancel,Sy (bM _),Nat.sub_self];rfl
   have hn3:(upd H2 pa (.lst (aC (a++[r])).dropLast)) pn=some (.lst (aC gone)):=by
    rw[zQ ne];exact hn2
   refine⟨_,rfl,.inl ⟨rfl,_,aQ.of hn3⟩,_,rfl,pn,_,_,rfl,rfl,hn3,zV (by rw[zU];lia),?_⟩;have s3:aG H (upd (upd H2 pa (.lst (aC (a++[r])).dropLast)) pn (.lst (aC gone++[.int (r:Int)]))):=cM Xz (cM npa s2 _) _
   have ha3:(upd (upd H2 pa (.lst (aC (a++[r])).dropLast)) pn (.lst (aC gone++[.int (r:Int)]))) pa=some (.lst (aC a)):=by
    rw[zQ (Ne.symm ne),zC,<-iJ,List.dropLast_concat]
   have hn4:(upd (upd H2 pa (.lst (aC (a++[r])).dropLast)) pn (.lst (aC gone++[.int (r:Int)]))) pn=some (.lst (aC (gone++[r]))):=by
    rw[zC,iJ]
   generalize upd (upd H2 pa (.lst (aC (a++[r])).dropLast)) pn (.lst (aC gone++[.int (r:Int)]))=H3 at s3 ha3 hn4 ⊢;refine⟨_,rfl,.inl ⟨rfl,_,aQ.of ha3⟩,_,rfl,_,rfl,_,rfl,t,pg,rs,r,gs,rfl,hR.mono (aA.of s3),good,oh,hrl,hG.mono s3,fun px H4 s4 npx hpx=>?_⟩;have wk3:=W3.step;have wl3:=wk3.len pos;rw[dW]at wl3;refine⟨pa,px,_,_,rfl,rfl,s4 _ _ ha3,hpx,zI (by rw[zU,zU];rw[dW]at wl3;lia),gone++[r],a++Tr.next (aD rs) (Nj rs) gs r,by rw[dW];rfl,cM npa (s3.trans s4) _,?_,?_,wk3,_,rfl⟩
   ·rw[zC];unfold aC;rw[jd]
   ·rw[zQ ne];exact s4 _ _ hn4
  ·have c':=of_decide_eq_false c;rw[zU]at c';have e:ahead=[]:=List.eq_nil_of_length_eq_zero (by lia);subst e;exact⟨gone,s2,hn2,W3,_,rfl⟩
 rintro σ' H2 aP;refine aJ fun G_ g_=>?_;obtain⟨gone,s2,hn2,W3,o5,rfl⟩:=aP;apply g_;clear g_ G_;have wl:=W3.len pos;refine⟨_,rfl,pn,_,rfl,.inl (aQ.of (by rw[hn2];unfold aC;rw[cR])),by rw[bZ];lia,fun p rs' hp perm Ol=>?_⟩
 have nd:gone.Nodup:=by
  have:=W3.nd;rw[gQ]at this;exact this
 refine aJ fun G_ g_=>?_;obtain⟨ms,rfl,rise,hpm⟩:=mD perm Ol nd;apply g_;clear g_ G_;refine q p ms _ (s2.trans (zF hp _)) (s2.free hp) ?_ ⟨rise,fun k=>(hpm.mem_iff).trans (W3.done k)⟩;rw[zC,<-cR];rfl
noncomputable def jL(H:Hp)(v:V)(k:List Nat):Prop:=∃ a:Addr,v = .ref a/\H a=some (.tup (aC k))
inductive bV(H:Hp):List V->List (List Nat)->Prop where
 | nil:bV H [] []
 | cons {v:V} {k:List Nat} {vs:List V} {ks:List (List Nat)}:jL H v k->bV H vs ks->bV H (v::vs) (k::ks)
theorem jL.mono{H H':Hp}{v:V}{k:List Nat}(x:jL H v k)(s:aA H H'):jL H' v k:=by
 obtain⟨a,e,h⟩:=x;exact⟨a,e,s _ _ h⟩
theorem bV.mono{H H':Hp}{vs:List V}{ks:List (List Nat)}(x:bV H vs ks)(s:aA H H'):bV H' vs ks:=by
 induction x with
 | nil=>exact .nil
 | cons h _ ih=>exact .cons (h.mono s) ih
theorem bV.length{H:Hp}{vs:List V}{ks:List (List Nat)}(x:bV H vs ks):vs.length=ks.length:=by
 induction x with
 | nil=>rfl
 | cons _ _ ih=>rw[dz,dz,ih]
theorem bV.get{H:Hp}{vs:List V}{ks:List (List Nat)}(x:bV H vs ks):∀ {i:Nat} {k:List Nat},ks[i]? = some k->∃ v,vs[i]? = some v/\jL H v k:=by
 induction x with
 | nil=>intro i k h;simp at h
 | cons h _ ih=>
  intro i k e
  cases i with
  | zero=>
   simp at e;subst e;exact⟨_,rfl,h⟩
  | succ i=>exact ih (by simpa using e)
theorem bV.set{H:Hp}{vs:List V}{ks:List (List Nat)}(x:bV H vs ks){v:V}{k:List Nat}(h:jL H v k):∀ i:Nat,bV H (vs.set i v) (ks.set i k):=by
 induction x with
 | nil=>intro i;exact .nil
 | cons h' hs ih=>
  intro i
  cases i with
  | zero=>exact .cons h hs
  | succ i=>exact .cons h' (ih i)
noncomputable def cV(rs:List Rm)(p:Nat):Str:=(rs.map (·.keeps)).getD p ("" : Str)
theorem FN{rs:List Rm}{p:Nat}{r:Rm}(h:rs[p]? = some r):cV rs p=r.keeps:=by
 unfold cV;rw[lX,gf,h];rfl
noncomputable def Xb(rs:List Rm)(p:Nat):Bool:=decide (kindAt rs p=("plain" : Str))
noncomputable def fJ(ds:List Int)(os:List Nat)(r:Nat):List Nat:=os.filter fun o=>Tr.bA ds o r
noncomputable def jt(rs:List Rm)(os:List Nat)(r:Nat):List Nat:=if cV rs r=("near" : Str) then (fJ (aD rs) os r).take 1 else (fJ (aD rs) os r).filter (Xb rs)
noncomputable def bH(rs:List Rm)(os:List Nat)(ls:List Nat)(ks:List (List Nat)):List (List Nat):=ls.foldl (fun k r=>if cV rs r=("" : Str) then k else k.set r (jt rs os r)) ks
theorem qm(rs:List Rm)(os:List Nat):∀(ls:List Nat)(ks:List (List Nat)),(bH rs os ls ks).length=ks.length
 | [],_=>rfl
 | r::ls,ks=>by
  show (bH rs os ls (if cV rs r=("" : Str) then ks else ks.set r (jt rs os r))).length=_;rw[qm rs os ls]
  split
  ·rfl
  ·rw[List.length_set]
theorem xX(rs:List Rm)(os ls:List Nat)(r:Nat)(ks:List (List Nat)):bH rs os (ls++[r]) ks=if cV rs r=("" : Str) then bH rs os ls ks else (bH rs os ls ks).set r (jt rs os r):=by
 unfold bH;rw[List.foldl_append];rfl
noncomputable def Jj:Sp:=fun vs H Q _ => ∃(t pt:Addr)(rs:List Rm)(os:List Nat),vs=[.ref t,.ref pt]/\cW H t rs/\rs.length<=40/\H pt=some (.lst (aC os))/\(∀ o∈os,o<rs.length)/\os.length<=100 ∧
 ∀(p:Addr)(H':Hp),aG H H'->H' p=some (.tup (aC (os.filter (Xb rs))))->Q (.ref p) H'
noncomputable def DP:Sp:=fun vs H Q _ => ∃(t rO:Addr)(rs:List Rm)(os:List Nat)(r:Nat),vs=[.ref t,.ref rO,.int (r:Int)]/\cW H t rs/\Tr.Good (aD rs)/\rs.length<=40/\H rO=some (.tup (aC os))/\(∀ o∈os,o<rs.length)/\os.length<=40/\os.Pairwise (· < ·)/\r<rs.length ∧
 ∀(p:Addr)(H':Hp),aG H H'->H' p=some (.tup (aC (jt rs os r)))->Q (.ref p) H'
noncomputable def xu:Sp:=fun vs H Q _ => ∃(t rO pl pk:Addr)(rs:List Rm)(os ls:List Nat)(kv:List V)(ks:List (List Nat)),vs=[.ref t,.ref rO,.ref pl,.ref pk]/\cW H t rs/\Tr.Good (aD rs)/\rs.length<=40/\H rO=some (.tup (aC os))/\(∀ o∈os,o<rs.length)/\os.length<=40/\os.Pairwise (· < ·)/\H pl=some (.lst (aC ls))/\(∀ l∈ls,l<rs.length)/\H pk=some (.tup kv)/\bV H kv ks/\ks.length=rs.length ∧
 ∀(p:Addr)(Ez:List V)(H':Hp),aG H H'->H' p=some (.tup Ez)->bV H' Ez (bH rs os ls ks)->Q (.ref p) H'
theorem xQ:aH ["rooms","told"] ["rooms","told"] (aB vP):=eO
theorem xU{f:Addr}{fd:FuncData}(F:cY K "plain_ones" "plain_ones" vP f fd)(aU:mg "tuple" = none):aM P w K mg base aW 1 f fd ["rooms","told"] Jj:=by
 refine F.ok xQ (fun vs H Q E h=>?_) (fun cdv A outer s H vs Q E hr h=>?_)
 ·refine aJ fun G_ g_=>?_;obtain⟨t,pt,rs,os,rfl,_⟩:=h;apply g_;clear g_ G_;rfl
 refine aJ fun G_ g_=>?_;obtain⟨t,pt,rs,os,rfl,hR,oh,Kh,hos,ZX,q⟩:=h;apply g_;clear g_ G_;refine⟨_,(zG (zO (yA zX rfl aU lV (zA (yT (aX:=[(0,"rooms")]) rfl (show bD (aB vP) ["rooms","told"] _ _ _ from xN) (yM (pv 1)) (fun _ _ _ _ _ _=>fG (zL yG (yB (r:=j9 K) zH (yB (r:=j9 K) zH (pv 1) (pv 0) (fun _ _=>rfl)) zB (fun _ _=>rfl)) zP (zR _))) (fun _ _ _ _ _ _=>(pv 0))) zD)))),?_⟩;refine⟨_,rfl,pt,rfl,⟨_,aQ.of Kh⟩,?_⟩;refine yS (K:=K) (a:=pt) (xs:=aC os) (fun i acc H'=>H'=H/\acc=aC ((os.take i).filter (Xb rs))) ⟨rfl,rfl⟩ (fun i acc H' ⟨e,_⟩=>by subst e;exact aQ.of Kh) (fun i x acc H' hx ⟨e1,e2⟩=>?_) (fun acc H' ⟨e1,e2⟩ p hp=>?_)
 ·subst e1 e2;refine aJ fun G_ g_=>?_;obtain⟨hi,rfl⟩:=yR hx;obtain⟨vs,a,r,ht,hl,hr0,hat,ha⟩:=hR.at (hos _ (je hi));apply g_;clear g_ G_;refine⟨_,rfl,_,rfl,t,vs,_,_,rfl,rfl,aK.of ht,hat,aF (aK.of ha) rfl ⟨rfl,_,rfl,?_⟩⟩
  have ep:Xb rs os[i]=decide (V.str r.kind=V.str ("plain" : Str)):=by
   unfold Xb;rw[KZ hr0];exact decide_eq_decide.mpr ⟨fun z=>by rw[z],fun z=>by injection z⟩
  rw[gJ (gq hi)];have ll:=rT (Xb rs) (os.take i);rw[jP]at ll;refine fH (fun c=>?_) (fun c=>?_)
  ·rw[if_pos (ep.trans c),<-iJ];exact⟨_,rfl,zV (by rw[zU];lia),rfl,rfl⟩
  ·rw[if_neg (by rw[show Xb rs os[i]=false from ep.trans c];exact pZ),gQ];exact⟨rfl,rfl⟩
 subst e1 e2;rw[xK (by rw[zU];exact bM _)];exact⟨p,_,rfl,.inl ⟨aQ.of zC,fun p2 hp2=>q p2 _ ((zF hp _).trans (zF hp2 _)) zC⟩⟩
theorem vL:aH ["rooms","opening","room","inside"] ["rooms","opening","room"] (aB ud):=eO
theorem Hk{n:Nat}{f gg gp:Addr}{fd dg dp:FuncData}(F:cY K "kept_of" "kept_of" ud f fd)
  (lO:Dp P w K mg base aW n gg dg ["rooms","under","opening"] JM.Ot "goings_out")
  (CZ:Dp P w K mg base aW n gp dp ["rooms","told"] Jj "plain_ones")
  (dR:mg "sorted" = none) (aU:mg "tuple" = none):aM P w K mg base aW (n+1) f fd ["rooms","opening","room"] DP:=by
 refine F.ok vL (fun vs H Q E h=>?_) (fun cdv A outer s H vs Q E hr h=>?_)
 ·refine aJ fun G_ g_=>?_;obtain⟨t,rO,rs,os,r,rfl,_⟩:=h;apply g_;clear g_ G_;rfl
 refine aJ fun G_ g_=>?_;obtain⟨t,rO,rs,os,r,rfl,hR,good,oh,hto,hos,ZX,inc,hr',q⟩:=h;apply g_;clear g_ G_
 refine⟨_,(zE (zK (i:=3) vL.nd rfl (Or.inl rfl) (zS n6 rfl dR PyProof.Rows.boot_sorted (zA (pC lO hr (zA (pv 0) (zA (pv 2) (zA (pv 1) zD)))) zD)))
  (zE (yD (zL yG (yB zH (yB zH (pv 0) (pv 2) (fun _ _=>rfl)) zB (fun _ _=>rfl)) zP (zR _))
  (zG (zO (yA zX rfl aU lV (zA (jo Jq (pv 3) ni (nZ zB)) zD))))
  zT)
  (zG (zO (pC CZ hr (zA (pv 0) (zA (pv 3) zD))))))),?_⟩
 refine aJ fun G_ g_=>?_;obtain⟨vs,a,r0,ht,hl,hr0,hat,ha⟩:=hR.at hr';apply g_;clear g_ G_;refine⟨_,rfl,_,rfl,_,rfl,t,rO,rs,some r,os,rfl,hR,good,oh,fun u e=>(by cases e;exact hr'),hto,hos,ZX,inc,fun pf H1 s1 npf hpf=>?_⟩;have eo:JM.jT (aD rs) (some r) os=(fJ (aD rs) os r).reverse:=rfl;have li:=rT (fun o=>Tr.bA (aD rs) o r) os;have li':(fJ (aD rs) os r).length<=os.length:=li;have ri:(fJ (aD rs) os r).Pairwise (· < ·):=inc.filter _;have mi:∀ o∈fJ (aD rs) os r,o<rs.length:=fun o ho=>hos o (lW.mp ho).1;unfold jt at q;generalize fJ (aD rs) os r=xs at eo li' ri mi q;rw[eo]at hpf;refine⟨pf,_,rfl,.inl (aQ.of (by rw[hpf];unfold aC;rw[cR])),by rw[bZ,List.length_reverse];lia,fun p1 rs' hp1 perm Ol=>?_⟩;refine aJ fun G_ g_=>?_;obtain⟨ms,rfl,rise,hpm⟩:=mD perm Ol (by unfold List.Nodup;rw[List.pairwise_reverse];exact ri.imp fun z=>Ne.symm (kI z));apply g_;clear g_ G_
 obtain rfl:ms=xs:=gA _ _ rise ri fun k=>by rw[hpm.mem_iff,List.mem_reverse]
 rw[<-cR];have s2:=s1.trans (zF hp1 (.lst (aC ms)));have h2:(upd H1 p1 (.lst (aC ms))) p1=some (.lst (aC ms)):=zC
 change _ at s2
 refine⟨_,rfl,_,rfl,t,vs,_,_,rfl,rfl,aK.of (s2 _ _ ht),hat,aF (aK.of (s2 _ _ ha)) rfl ⟨rfl,_,rfl,?_⟩⟩
 have ek:(cV rs r=("near" : Str))↔V.str r0.keeps=V.str ("near" : Str):=by
  rw[FN hr0];exact⟨fun z=>by rw[z],fun z=>by injection z⟩
 refine fH (fun c=>?_) (fun c=>?_)
 ·have c':=ek.mpr (of_decide_eq_true c);refine⟨_,rfl,_,rfl,p1,_,rfl,aQ.of h2,fun p2 hp2=>?_⟩;rw[Ff _ (by decide)]
  have e2:(aC ms).take (1:Int).toNat=aC (ms.take 1):=by
   unfold aC;rw[List.map_take];rfl
  rw[e2];refine⟨p2,_,rfl,.inl ⟨aQ.of zC,fun p3 hp3=>?_⟩⟩;refine q p3 _ ((s2.trans (zF hp2 _)).trans (zF hp3 _)) ?_;rw[zC,if_pos c']
 ·have c':¬ cV rs r=("near" : Str):=fun z=>of_decide_eq_false c (ek.mp z);refine⟨_,rfl,_,rfl,t,p1,rs,ms,rfl,hR.mono (aA.of s2),oh,h2,mi,by lia,fun p2 H3 s3 hp2=>?_⟩;refine q p2 H3 (s2.trans s3) ?_;rw[if_neg c'];exact hp2
theorem pF:aH ["rooms","opening","left","kept","told","room"] ["rooms","opening","left","kept"] (aB qO):=eO
theorem Hl{n:Nat}{f gk:Addr}{fd dk:FuncData}(F:cY K "keeping" "keeping" qO f fd)
  (Nt:Dp P w K mg base aW n gk dk ["rooms","opening","room"] DP "kept_of")
  (ie:mg "list" = none) (aU:mg "tuple" = none):aM P w K mg base aW (n+1) f fd ["rooms","opening","left","kept"] xu:=by
 refine F.ok pF (fun vs H Q E h=>?_) (fun cdv A outer s H vs Q E hr h=>?_)
 ·refine aJ fun G_ g_=>?_;obtain⟨t,rO,pl,pk,rs,os,ls,kv,ks,rfl,_⟩:=h;apply g_;clear g_ G_;rfl
 refine aJ fun G_ g_=>?_;obtain⟨t,rO,pl,pk,rs,os,ls,kv,ks,rfl,hR,good,oh,hto,hos,ZX,inc,hpl,hls,Wc,hks,lks,q⟩:=h;apply g_;clear g_ G_
 refine⟨_,(zE (zK (i:=4) pF.nd rfl (Or.inl rfl) (yA fL rfl ie PyProof.Rows.boot_list (zA (pv 3) zD)))
  (zZ (bU PassesOwn.never rfl (yM (pv 2)) (yJ (i:=5) pF.nd rfl (Or.inl rfl))
  (zG (yD (zL ym (yB zH (yB zH (pv 0) (pv 5) (fun _ _=>rfl)) zB (fun _ _=>rfl)) zP (zR _))
  (zG (Xa (pC Nt hr (zA (pv 0) (zA (pv 1) (zA (pv 5) zD)))) (Xd (pv 4) (pv 5) set_list)))
  zT)))
  (zG (zO (yA zX rfl aU lV (zA (pv 4) zD)))))),?_⟩
 refine⟨_,rfl,iZ rfl (.inr (aK.of Wc)) (fun pt Kh=>?_)⟩;have s1:=zF Kh (.lst kv);refine⟨fun σ' H'=>∃ Ez:List V,aG H H'/\H' pt=some (.lst Ez)/\bV H' Ez (bH rs os ls ks)/\∃ o5:Option V,σ'=[some (.ref t),some (.ref rO),some (.ref pl),some (.ref pk),some (.ref pt),o5],?_,?_⟩
 ·refine⟨_,rfl,pl,rfl,⟨_,aQ.of (s1 _ _ hpl)⟩,?_⟩;refine fK (K:=K) (a:=pl) (xs:=aC ls) (fun i σ' H'=>∃ Ez:List V,aG H H'/\H' pt=some (.lst Ez)/\bV H' Ez (bH rs os (ls.take i) ks)/\∃ o5:Option V,σ'=[some (.ref t),some (.ref rO),some (.ref pl),some (.ref pk),some (.ref pt),o5])
   ⟨kv,s1,zC,hks.mono (aA.of s1),_,rfl⟩ (fun i σ' H' _ ⟨_,s2,_⟩=>aQ.of (s2 _ _ hpl)) ?_ ?_
  ·rintro i x σ' H2 hx aP;refine aJ fun G_ g_=>?_;obtain⟨YK,s2,h2,hk2,o5,rfl⟩:=aP;obtain⟨hi,rfl⟩:=yR hx;have hlt:=hls _ (je hi);obtain⟨vs,a,r0,ht,hl,hr0,hat,ha⟩:=hR.at hlt;apply g_;clear g_ G_;have lk2:=hk2.length;rw[qm]at lk2
   have es:bH rs os (ls.take (i+1)) ks=if cV rs ls[i]=("" : Str) then bH rs os (ls.take i) ks else (bH rs os (ls.take i) ks).set ls[i] (jt rs os ls[i]):=by
    rw[j8,gq hi];exact xX rs os _ _ ks
   refine⟨_,rfl,_,rfl,t,vs,_,_,rfl,rfl,aK.of (s2 _ _ ht),hat,aF (aK.of (s2 _ _ ha)) rfl ⟨rfl,_,rfl,?_⟩⟩
   have ek:cV rs ls[i]=("" : Str)↔V.str r0.keeps=V.str ("" : Str):=by
    rw[FN hr0];exact⟨fun z=>by rw[z],fun z=>by injection z⟩
   refine fH (fun c=>?_) (fun c=>?_)
   ·have c':¬ cV rs ls[i]=("" : Str):=fun z=>by
     have c:(!decide (V.str r0.keeps=V.str ("" : Str)))=true:=c;rw[decide_eq_true (ek.mp z)]at c
     cases c
    rw[if_neg c']at es;refine⟨_,rfl,_,rfl,_,rfl,t,rO,rs,os,ls[i],rfl,hR.mono (aA.of s2),good,oh,s2 _ _ hto,hos,ZX,inc,hlt,fun p H3 s3 hp=>?_⟩;refine⟨_,rfl,_,rfl,pt,_,_,ls[i],rfl,rfl,s3 _ _ h2,?_,?_⟩
    ·unfold Wb;rw[if_pos (by lia),if_pos (by lia)];simp
    have kt:aA H3 (upd H3 pt (.lst (YK.set ls[i] (.ref p)))):=aA.lst (s3 _ _ h2) _;refine⟨YK.set ls[i] (.ref p),cM Kh (s2.trans s3) _,zC,?_,_,rfl⟩;rw[es];exact ((hk2.mono (aA.of s3)).mono kt).set ⟨p,rfl,kt _ _ hp⟩ _
   ·have c':cV rs ls[i]=("" : Str):=by
     have c:(!decide (V.str r0.keeps=V.str ("" : Str)))=false:=c;rw[Bool.not_eq_false']at c;exact ek.mpr (of_decide_eq_true c)
    rw[if_pos c']at es;exact⟨YK,s2,h2,by rw[es];exact hk2,_,rfl⟩
  ·rintro σ' H2 aP;refine aJ fun G_ g_=>?_;obtain⟨YK,s2,h2,hk2,o5,rfl⟩:=aP;apply g_;clear g_ G_;rw[xK (by rw[zU];exact bM _)]at hk2;exact⟨YK,s2,h2,hk2,_,rfl⟩
 rintro σ' H2 aP;refine aJ fun G_ g_=>?_;obtain⟨YK,s2,h2,hk2,o5,rfl⟩:=aP;apply g_;clear g_ G_;refine⟨_,rfl,pt,_,rfl,.inl ⟨aQ.of h2,fun p hp=>?_⟩⟩;exact q p YK _ (s2.trans (zF hp _)) zC (hk2.mono (aA.of (zF hp _)))
end
end jY
namespace GP
open PySem L2 pQ rG CN
theorem qW:∀(a b:List Int),a.Pairwise (· < ·)->b.Pairwise (· < ·)->(∀ k,k∈a↔k∈b)->a=b
 | [],[],_,_,_=>rfl
 | [],y::b,_,_,h=>absurd ((h y).mpr List.mem_cons_self) (by simp)
 | x::a,[],_,_,h=>absurd ((h x).mp List.mem_cons_self) (by simp)
 | x::a,y::b,ha,hb,h=>by
  obtain⟨a1,a2⟩:=List.pairwise_cons.mp ha;obtain⟨b1,b2⟩:=List.pairwise_cons.mp hb
  have e:x=y:=by
   rcases bI.mp ((h x).mp Cu) with e | h1
   ·exact e
   ·rcases bI.mp ((h y).mpr Cu) with e | h2
    ·exact e.symm
    ·have:=a1 y h2;have:=b1 x h1;lia
  subst e;congr 1;refine qW a b a2 b2 fun k=>?_;have hk:=h k;rw[bI,bI]at hk;constructor
  ·intro z;rcases hk.mp (.inr z) with e | z'
   ·subst e;have:=a1 k z;lia
   ·exact z'
  ·intro z;rcases hk.mpr (.inr z) with e | z'
   ·subst e;have:=b1 k z;lia
   ·exact z'
noncomputable def inter(os:List Nat):List Int:=os.map fun j:Nat=>(j:Int)
theorem Bm(os:List Nat):(inter os).map V.int=aC os:=by
 unfold inter aC;rw[List.map_map];rfl
theorem Hy(a b:List Nat):aC a++aC b=aC (a++b):=(jd ..).symm
noncomputable def gU(os:List Nat)(bx:List Int)(ds:List Dg)(ev:Int):List Nat:=os.filter fun r=>(dD (inter os) bx ds (r:Int) ev).isSome
noncomputable def vy(inn:Bool)(dp:List Int)(room:Nat)(Cp:List Nat):Bool:=Cp.any fun o=>if inn=true then Tr.bA dp o room else Tr.bA dp room o
noncomputable def my(inn:Bool)(dp:List Int)(os:List Nat)(bx:List Int)(ds:List Dg)(ev:Int):List Nat:=
 ((gU os bx ds ev).filter fun r => !vy inn dp r (gU os bx ds ev)).map fun r:Nat=>(dD (inter os) bx ds (r:Int) ev).getD 0
noncomputable def pK(od:Str):Bool:=decide (V.str od=V.str ("inner" : Str))
noncomputable def xr:Sp:=fun vs H Q _ => ∃(pc t pl:Addr)(od:Str)(x1 x2 x3 x4 x6:V)(rs:List Rm)(room:Nat)(Cp:List Nat),vs=[.ref pc,.int (room:Int),.ref pl]/\H pc=some (.tup [.str od,x1,x2,x3,x4,.ref t,x6])/\cW H t rs/\Tr.Good (aD rs)/\rs.length<=40/\room<rs.length/\H pl=some (.lst (aC Cp))/\(∀ o∈Cp,o<rs.length)/\Cp.length<=1000 ∧
 ∀ H':Hp,aG H H'->Q (.bl (vy (pK od) (aD rs) room Cp)) H'
noncomputable def DX(n:Nat):Sp:=fun vs H Q _ => ∃(pc Du t pd o b:Addr)(od:Str)(os:List Nat)(bx:List Int)(rs:List Rm)(ds:List Dg)(dv:List V)(x1 x2 x3 x4 x:V)(ev:Int),vs=[.ref pc,.ref Du,.int ev]/\H pc=some (.tup [.str od,x1,x2,x3,x4,.ref t,.ref pd])/\cW H t rs/\Tr.Good (aD rs)/\rs.length<=40/\H pd=some (.tup dv)/\Al (Vz H) dv ds/\H Du=some (.tup [.ref o,.ref b,x])/\H o=some (.tup (aC os))/\(∀ o∈os,o<rs.length)/\os.Pairwise (· < ·)/\H b=some (.tup (bx.map V.int))/\(∀ d∈ds,d.g.ok bx.length/\d.g.ht<=n)/\ds.length<=63 ∧
 ∀(p:Addr)(H':Hp),aG H H'->H p=none->H' p=some (.lst (aC (my (pK od) (aD rs) os bx ds ev)))->Q (.ref p) H'
section
variable{P:Program}{w:World}{K:bO}{mg:Str->Option Value}{base:Heap}
theorem oV:aH ["chart","room","others","rooms"] ["chart","room","others"] (aB jm):=eO
theorem Hg{n:Nat}{f gl:Addr}{fd dl:FuncData}(F:cY K "is_outdone" "is_outdone" jm f fd)(oN:Dp P w K mg base aW n gl dl ["rooms","one","other"] jY.Gu "lies_in")(KR:mg "any" = none) :
  aM P w K mg base aW (n+1) f fd ["chart","room","others"] xr:=by
 refine F.ok oV (fun vs H Q E h=>?_) (fun cdv A outer s H vs Q E hr h=>?_)
 ·refine aJ fun G_ g_=>?_;obtain⟨pc,t,pl,od,x1,x2,x3,x4,x6,rs,room,Cp,rfl,_⟩:=h;apply g_;clear g_ G_;rfl
 refine aJ fun G_ g_=>?_;obtain⟨pc,t,pl,od,x1,x2,x3,x4,x6,rs,room,Cp,rfl,RB,hR,good,oh,hroom,hpl,qC2,lots,q⟩:=h;apply g_;clear g_ G_
 refine⟨_,(zE (zK (i:=3) oV.nd rfl (Or.inr rfl) (yB zH (pv 0) zB (fun _ _=>rfl)))
  (zE (yD (zL yG (yB zH (pv 0) zB (fun _ _=>rfl)) zP (zR _))
  (zG (zO (zS (tO rfl) rfl KR PyProof.Rows.boot_any (zA (yT (aX:=[(3,"rooms"),(1,"room")]) rfl (show bD (aB jm) ["chart","room","others","rooms"] _ _ _ from xN) (yM (pv 2)) (fun _ _ _ _ _ _=>cD) (fun _ _ _ _ _ _=>(pC oN hr (zA (pv 1) (zA (pv 0) (zA (pv 2) zD)))))) zD))))
  zT)
  (zG (zO (zS (tO rfl) rfl KR PyProof.Rows.boot_any (zA (yT (aX:=[(3,"rooms"),(1,"room")]) rfl (show bD (aB jm) ["chart","room","others","rooms"] _ _ _ from xN) (yM (pv 2)) (fun _ _ _ _ _ _=>cD) (fun _ _ _ _ _ _=>(pC oN hr (zA (pv 1) (zA (pv 2) (zA (pv 0) zD)))))) zD)))))),?_⟩
 refine⟨_,rfl,aF (aK.of RB) rfl ?_⟩;refine⟨_,rfl,aF (aK.of RB) rfl ⟨rfl,_,rfl,?_⟩⟩
 have go:∀(fl:Nat->Bool)(H':Hp)(p:Addr),aG H H'->(∀ o∈Cp,fl o=if pK od=true then Tr.bA (aD rs) o room else Tr.bA (aD rs) room o)->Q (.bl ((Cp.map fl).any id)) H':=fun fl H' p s' hfl=>by
  have e:(Cp.map fl).any id=vy (pK od) (aD rs) room Cp:=by
   unfold vy;rw[List.any_map,Bool.eq_iff_iff,List.any_eq_true,List.any_eq_true];exact⟨fun ⟨o,a,b⟩=>⟨o,a,(hfl o a)▸b⟩,fun ⟨o,a,b⟩=>⟨o,a,show fl o=true from (hfl o a).trans b⟩⟩
  rw[e];exact q H' s'
 refine fH (fun c=>?_) (fun c=>?_)
 ·have ci:pK od=true:=c;refine⟨_,rfl,pl,rfl,⟨_,aQ.of hpl⟩,?_⟩;refine yS (K:=K) (a:=pl) (xs:=aC Cp) (fun i acc H'=>aG H H'/\acc=((Cp.take i).map fun o:Nat=>Tr.bA (aD rs) o room).map V.bl) ⟨aG.refl _,rfl⟩ (fun i acc H' ⟨e,_⟩=>aQ.of (e _ _ hpl)) (fun i x acc H' hx ⟨e1,e2⟩=>?_) (fun acc H' ⟨e1,e2⟩ p hp=>?_)
  ·subst e2;obtain⟨hi,rfl⟩:=jY.yR hx;refine⟨_,rfl,_,rfl,_,rfl,t,rs,Cp[i],room,rfl,hR.mono (aA.of e1),good,oh,qC2 _ (je hi),hroom,fun H2 s2=>⟨zV (by rw[bZ,bZ,jP];lia),e1.trans s2,?_⟩⟩;rw[j8,gq hi,jd,jd];rfl
  ·subst e2;rw[xK (by rw[zU];exact bM _)];exact⟨p,_,rfl,aQ.of zC,go _ _ p (e1.trans (zF hp _)) fun o _=>by rw[if_pos ci]⟩
 ·have ci:pK od=false:=c;refine⟨_,rfl,pl,rfl,⟨_,aQ.of hpl⟩,?_⟩;refine yS (K:=K) (a:=pl) (xs:=aC Cp) (fun i acc H'=>aG H H'/\acc=((Cp.take i).map fun o:Nat=>Tr.bA (aD rs) room o).map V.bl) ⟨aG.refl _,rfl⟩ (fun i acc H' ⟨e,_⟩=>aQ.of (e _ _ hpl)) (fun i x acc H' hx ⟨e1,e2⟩=>?_) (fun acc H' ⟨e1,e2⟩ p hp=>?_)
  ·subst e2;obtain⟨hi,rfl⟩:=jY.yR hx;refine⟨_,rfl,_,rfl,_,rfl,t,rs,room,Cp[i],rfl,hR.mono (aA.of e1),good,oh,hroom,qC2 _ (je hi),fun H2 s2=>⟨zV (by rw[bZ,bZ,jP];lia),e1.trans s2,?_⟩⟩;rw[j8,gq hi,jd,jd];rfl
  ·subst e2;rw[xK (by rw[zU];exact bM _)];exact⟨p,_,rfl,aQ.of zC,go _ _ p (e1.trans (zF hp _)) fun o _=>by rw[ci];rfl⟩
theorem sO:aH ["chart","stand","event","by_room","answering"] ["chart","stand","event"] (aB qQ):=eO
theorem MP{n m:Nat}{f ga go:Addr}{fd da do':FuncData}(F:cY K "chosen" "chosen" qQ f fd)(Nx:Dp P w K mg base aW m ga da ["chart","stand","event"] (yX n) "answers")
  (Ce:Dp P w K mg base aW m go do' ["chart","room","others"] xr "is_outdone") (dR:mg "sorted" = none) :
  aM P w K mg base aW (m+1) f fd ["chart","stand","event"] (DX n):=by
 refine F.ok sO (fun vs H Q E h=>?_) (fun cdv A outer s H vs Q E hr h=>?_)
 ·refine aJ fun G_ g_=>?_;obtain⟨pc,Du,t,pd,o,b,od,os,bx,rs,ds,dv,x1,x2,x3,x4,x,ev,rfl,_⟩:=h;apply g_;clear g_ G_;rfl
 refine aJ fun G_ g_=>?_;obtain⟨pc,Du,t,pd,o,b,od,os,bx,rs,ds,dv,x1,x2,x3,x4,x,ev,rfl,RB,hR,good,oh,hpd,hds,hst,ho,hos,inc,hb,hok,l63,q⟩:=h;apply g_;clear g_ G_;have hu:=Nat.lt_of_le_of_lt (Nat.add_le_add_left (show 1<=64 by decide) _) hr.units
 refine⟨_,(zE (zK (i:=3) sO.nd rfl (Or.inr rfl) (pC Nx hr (zA (pv 0) (zA (pv 1) (zA (pv 2) zD)))))
  (zE (zK (i:=4) sO.nd rfl (Or.inr rfl) (zS (By rfl) rfl dR PyProof.Rows.boot_sorted (zA (pv 3) zD)))
  (zG (zO (yT (aX:=[(0,"chart"),(4,"answering"),(3,"by_room")]) rfl (show bD (aB qQ) ["chart","stand","event","by_room","answering"] _ _ _ from xN) (yM (pv 4)) (fun _ _ _ _ _ _=>fG (lB (dY (pC Ce hr (zA (pv 1) (zA (pv 0) (zA (pv 2) zD))))))) (fun _ _ _ _ _ _=>(Um hu (pv 3) (pv 0) (fun _ _=>rfl)))))))),?_⟩
 refine⟨_,rfl,_,rfl,_,rfl,pc,Du,pd,o,b,inter os,bx,ds,dv,_,_,_,_,_,_,_,ev,rfl,RB,hpd,hds,hst,(by rw[Bm];exact ho),hb,hok,by lia,fun pb kvs H1 s1 h1 hv ⟨ks,hks,lks⟩ npb=>?_⟩;refine⟨_,rfl,pb,kvs,ks,rfl,h1,hks,by lia,fun pq zs TJ nd perm Ol=>?_⟩
 have mk:∀ k:Int,k∈ks↔(dD (inter os) bx ds k ev).isSome=true:=fun k=>by
  have e1:(cG kvs (Sum.inl k)).isSome=(dD (inter os) bx ds k ev).isSome:=by
   rw[hv k]
   cases dD (inter os) bx ds k ev <;> rfl
  rw[<-e1,<-jg,List.any_eq_true];constructor
  ·intro z
   have:(Sum.inl k:Key)∈kvs.map (·.1):=by rw[hks];exact eQ.mpr ⟨k,z,rfl⟩
   refine aJ fun G_ g_=>?_;obtain⟨kv,hkv,e⟩:=eQ.mp this;apply g_;clear g_ G_;exact⟨kv,hkv,decide_eq_true e⟩
  ·rintro aP;refine aJ fun G_ g_=>?_;obtain⟨kv,hkv,e⟩:=aP;apply g_;clear g_ G_;have:(Sum.inl k:Key)∈kvs.map (·.1):=eQ.mpr ⟨kv,hkv,of_decide_eq_true e⟩;rw[hks]at this;refine aJ fun G_ g_=>?_;obtain⟨j,hj,e⟩:=eQ.mp this;apply g_;clear g_ G_;injection e with e;exact e▸hj
 have ez:zs=inter (gU os bx ds ev):=by
  refine qW _ _ ((Ol.and (perm.nodup_iff.mpr nd)).imp fun ⟨z1,z2⟩=>by lia) (List.pairwise_map.mpr ((inc.filter _).imp fun z=>by lia)) fun k=>?_;rw[perm.mem_iff,mk k];constructor
  ·intro z
   have hin:inV (.int k) ((inter os).map V.int)=true:=by
    unfold dD at z
    by_cases y:inV (.int k) ((inter os).map V.int)=true
    ·exact y
    ·rw[if_neg y]at z
     cases z
   rw[Bm]at hin;refine aJ fun G_ g_=>?_;obtain⟨j,hj,rfl⟩:=KQ hin;apply g_;clear g_ G_;exact eQ.mpr ⟨j,lW.mpr ⟨hj,z⟩,rfl⟩
  ·intro z;refine aJ fun G_ g_=>?_;obtain⟨j,hj,rfl⟩:=eQ.mp z;apply g_;clear g_ G_;exact (lW.mp hj).2
 subst ez;rw[Bm]
 have la:(gU os bx ds ev).length<=63:=by
  have:=perm.length_eq;unfold inter at this;rw[bZ]at this;lia
 have hA:∀ r∈gU os bx ds ev,r<rs.length/\(dD (inter os) bx ds (r:Int) ev).isSome=true:=fun r hr'=>⟨hos r (lW.mp hr').1,(lW.mp hr').2⟩;have s2:=s1.trans (zF TJ (.lst (aC (gU os bx ds ev))));have h2:upd H1 pq (.lst (aC (gU os bx ds ev))) pq=some (.lst (aC (gU os bx ds ev))):=zC;have hb2:=(zF TJ (.lst (aC (gU os bx ds ev)))) _ _ h1;generalize upd H1 pq (.lst (aC (gU os bx ds ev)))=H2 at s2 h2 hb2 ⊢;refine⟨_,rfl,pq,rfl,⟨_,aQ.of h2⟩,?_⟩;refine yS (K:=K) (a:=pq) (xs:=aC (gU os bx ds ev)) (fun i acc H'=>aG H2 H'/\acc=aC ((((gU os bx ds ev).take i).filter fun r => !vy (pK od) (aD rs) r (gU os bx ds ev)).map fun r:Nat=>(dD (inter os) bx ds (r:Int) ev).getD 0)) ⟨aG.refl _,rfl⟩ (fun i acc H' ⟨e,_⟩=>aQ.of (e _ _ h2)) (fun i y acc H' hy ⟨e1,e2⟩=>?_) (fun acc H' ⟨e1,e2⟩ p hp=>?_)
 ·subst e2;obtain⟨hi,rfl⟩:=jY.yR hy;have hm:=hA _ (je hi);have et:=jY.gJ (f:=fun r => !vy (pK od) (aD rs) r (gU os bx ds ev)) (gq hi);generalize (gU os bx ds ev)[i]=r at hm et
  have lt':(aC ((((gU os bx ds ev).take i).filter fun r => !vy (pK od) (aD rs) r (gU os bx ds ev)).map fun r:Nat=>(dD (inter os) bx ds (r:Int) ev).getD 0)).length<=63:=by
   rw[zU,bZ];have:=rT (fun r => !vy (pK od) (aD rs) r (gU os bx ds ev)) ((gU os bx ds ev).take i);rw[jP]at this;lia
  have s3:=s2.trans e1;refine⟨_,rfl,_,rfl,_,rfl,pc,t,pq,od,_,_,_,_,_,rs,r,gU os bx ds ev,rfl,s3 _ _ RB,hR.mono (aA.of s3),good,oh,hm.1,e1 _ _ h2,(fun o ho=>(hA o ho).1),by lia,fun H4 s4=>?_⟩;refine⟨_,rfl,?_⟩;rw[et];refine fH (fun c=>?_) (fun c=>?_)
  ·have c':(!vy (pK od) (aD rs) r (gU os bx ds ev))=true:=c;obtain⟨k,hk⟩:=Option.isSome_iff_exists.mp hm.2;have hv':=hv (r:Int);rw[hk]at hv';have g:=Cj.k (k:=Sum.inl (r:Int)) ((e1.trans s4) _ _ hb2);rw[hv']at g;refine⟨_,rfl,_,rfl,pb,_,rfl,g,zV (by lia),e1.trans s4,?_⟩;rw[if_pos c',jd,<-Hy];show _=_++aC [(dD (inter os) bx ds (r:Int) ev).getD 0];rw[hk];rfl
  ·have c':¬ (!vy (pK od) (aD rs) r (gU os bx ds ev))=true:=fun z=>by
    have c:(!vy (pK od) (aD rs) r (gU os bx ds ev))=false:=c;rw[c]at z
    cases z
   rw[if_neg c',gQ];exact⟨e1.trans s4,rfl⟩
 ·subst e2;rw[xK (by rw[zU];exact bM _)];exact q p _ (s2.trans (e1.trans (zF hp _))) ((s2.trans e1).free hp) zC
end
end GP
namespace jY
open PySem L2 pQ rG JQ
theorem Vn(xs:List V){k:Nat}(h:k<=xs.length):pN xs none (some (k:Int))=xs.take k:=by
 unfold pN;rw[HT.Dh,HT.ue,List.drop_zero,Nat.sub_zero,Nat.min_eq_left h]
theorem NK(xs:List V){k:Nat}(h:k+1<=xs.length):pN xs (some ((k:Int)+1)) none=xs.drop (k+1):=by
 have e:(k:Int)+1=((k+1:Nat):Int):=by lia
 unfold pN;rw[e,HT.Dh,HT.ue,Nat.min_eq_left h,xK (by rw[List.length_drop];exact bM _)]
theorem U3{α:Type}{xs:List α}{k:Nat}(v:α)(h:k<xs.length):xs.take k++[v]++xs.drop (k+1)=xs.set k v:=by
 rw[List.set_eq_take_append_cons_drop,if_pos h,List.append_assoc];rfl
section
variable{P:Program}{w:World}{K:bO}{mg:Str->Option Value}{base:Heap}
theorem iR:aH ["deed","boxes","sizes","kind","box","number"] ["deed","boxes","sizes"] (aB qR):=eO
theorem Hm{f:Addr}{fd:FuncData}(F:cY K "changed" "changed" qR f fd):aM P w K mg base aW 1 f fd ["deed","boxes","sizes"] yW:=by
 refine F.ok iR (fun vs H Q E h=>?_) (fun cdv A outer s H vs Q E hr h=>?_)
 ·refine aJ fun G_ g_=>?_;obtain⟨vd,tb,ts,d,bx,sz,rfl,_⟩:=h;apply g_;clear g_ G_;rfl
 refine aJ fun G_ g_=>?_;obtain⟨vd,tb,ts,d,bx,sz,rfl,hd,hb,hs,hok,hlen,h6,hpos,q⟩:=h;apply g_;clear g_ G_
 refine⟨_,(zE (zK (i:=3) iR.nd rfl (Or.inl rfl) (yB zH (pv 0) zB (fun _ _=>rfl)))
  (zE (yD (zL lD (pv 3) (zW (zA zP (zA zP zD))) rfl)
  (zG (zO (pv 1)))
  zT)
  (zE (zK (i:=4) iR.nd rfl (Or.inl rfl) (yB zH (pv 0) zB (fun _ _=>rfl)))
  (zE (zK (i:=5) iR.nd rfl (Or.inl rfl) (yB zH (pv 0) zB (fun _ _=>rfl)))
  (zZ (yD (zL yG (pv 3) zP (zR _))
  (zG (zK (i:=5) iR.nd rfl (Or.inl rfl) (yC zY (yC yF (yB zH (pv 1) (pv 4) (fun _ _=>rfl)) (pv 5)) (yB zH (pv 2) (pv 4) (fun _ _=>rfl)))))
  zT)
  (zG (zO (yC uh (pH (yC (jZ.or uh w6) (jo PX (pv 1) ni (nZ (pv 4))) (zW (zA (pv 5) zD)))) (jo PX (pv 1) (nZ (yC yF (pv 4) zB)) ni))))))))),?_⟩
 have two:(∃(a:Addr)(kd:Str)(b n:Int),vd = .ref a/\H a=some (.tup [.str kd,.int b,.int n])/\((kd = "set" /\ d = .set b n)∨(kd = "add" /\ d = .add b n))) ∨
   (∃(a:Addr)(kd:Str)(u:V),vd = .ref a/\H a=some (.tup [.str kd,u])/\(kd = "say" ∨ kd = "send")/\d.upd sz bx=bx):=by
  cases hd with
  | say e=>exact .inr ⟨_,_,_,rfl,e,.inl rfl,rfl⟩
  | send e=>exact .inr ⟨_,_,_,rfl,e,.inr rfl,rfl⟩
  | set e=>exact .inl ⟨_,_,_,_,rfl,e,.inl ⟨rfl,rfl⟩⟩
  | add e=>exact .inl ⟨_,_,_,_,rfl,e,.inr ⟨rfl,rfl⟩⟩
 rcases two with ⟨a,kd,b,n,rfl,e,hk⟩ | ⟨a,kd,u,rfl,e,hk,hu⟩
 ·refine⟨_,rfl,aF (aK.of e) rfl ⟨_,rfl,zI (by show 2<=1000;decide),fun p hp=>?_⟩⟩;have s1:aG H (upd H p (.tup [.str "set",.str "add"])):=zF hp _;have e1:=s1 _ _ e;refine (iZ rfl (.inr (aK.of zC)) ⟨rfl,rfl,_,rfl,qp (by rcases hk with ⟨rfl,_⟩ | ⟨rfl,_⟩ <;> decide +kernel) ?_⟩);refine⟨_,rfl,aF (aK.of e1) rfl ⟨_,rfl,aF (aK.of e1) rfl ?_⟩⟩
  have qG3:0<=b/\b<(bx.length:Int):=by
   rcases hk with ⟨_,rfl⟩ | ⟨_,rfl⟩ <;> exact hok b rfl
  refine aJ fun G_ g_=>?_;obtain⟨hb0,hb1⟩:=qG3;obtain⟨k,rfl⟩:∃ k:Nat,b=(k:Int):=⟨b.toNat,by lia⟩;apply g_;clear g_ G_
  have hkl:k<bx.length:=by lia
  refine⟨fun σ' H'=>H'=upd H p (.tup [.str "set",.str "add"])/\∃ v:Int,σ'=[some (.ref a),some (.ref tb),some (.ref ts),some (.str kd),some (.int (k:Int)),some (.int v)]/\d.upd sz bx=bx.set k v,?_,?_⟩
  ·refine⟨_,rfl,rfl,_,rfl,?_⟩;rcases hk with ⟨rfl,rfl⟩ | ⟨rfl,rfl⟩
   ·refine yN (by decide +kernel) ?_;refine⟨rfl,n,rfl,?_⟩;show bx.set (k:Int).toNat n=_;rw[Tg]
   ·refine yO ?_;refine⟨_,rfl,_,rfl,aF (aK.of (s1 _ _ hb)) (wg hb0 hb1) ⟨_,rfl,aq ⟨_,rfl,_,rfl,aF (aK.of (s1 _ _ hs)) (wg hb0 (by lia)) (aq ⟨hpos _ (Vt hb0 (by lia)),?_⟩)⟩⟩⟩;refine⟨rfl,_,rfl,?_⟩;show bx.set (k:Int).toNat _=_;rw[Tg]
  rintro σ' H' aP;refine aJ fun G_ g_=>?_;obtain⟨rfl,v,rfl,hv⟩:=aP;apply g_;clear g_ G_;have hb':=s1 _ _ hb;refine⟨fun x H'=>∃ t:Addr,x = .ref t/\aG (upd H p (.tup [.str "set",.str "add"])) H'/\H' t=some (.tup ((bx.take k++[v]).map V.int)),?_,?_⟩
  ·refine⟨_,rfl,_,rfl,_,rfl,tb,_,rfl,aK.of hb',?_,fun p1 hp1=>?_⟩
   ·rw[HT.ue,bZ];lia
   have s2:=zF hp1 (.tup (pN (bx.map V.int) none (some (k:Int))));refine⟨_,rfl,zI (by show 1<=1000;decide),fun p2 hp2=>?_⟩
   have e1':pN (bx.map V.int) none (some (k:Int))=(bx.take k).map V.int:=by
    rw[Vn _ (by rw[bZ];lia),List.map_take]
   have s3:=zF hp2 (.tup [.int v])
   by_cases hk0:k=0
   ·subst hk0;refine .inr ⟨p1,p2,_,rfl,rfl,aK.of (s3 _ _ (by rw[zC,e1'];rfl)),aK.of zC,?_⟩;exact⟨p2,rfl,s2.trans s3,by rw[zC];rfl⟩
   ·refine .inl ⟨p1,p2,_,_,rfl,rfl,aK.of (s3 _ _ zC),aK.of zC,?_,?_,fun z=>(by cases z),fun _ p3 hp3=>?_⟩
    ·intro z;have:=congrArg List.length z;rw[e1',bZ,jP,List.length_nil]at this;lia
    ·rw[e1',bZ,jP];exact zI (by show _+1<=1000;lia)
    ·refine⟨p3,rfl,(s2.trans s3).trans (zF hp3 _),?_⟩;rw[zC,e1',jd];rfl
  rintro x H2 aP;refine aJ fun G_ g_=>?_;obtain⟨t,rfl,s4,ht⟩:=aP;apply g_;clear g_ G_;refine⟨_,rfl,_,rfl,aq ⟨_,rfl,tb,_,rfl,aK.of (s4 _ _ hb'),?_,fun p4 hp4=>?_⟩⟩
  ·rw[show ((k:Int)+1)=((k+1:Nat):Int) by lia,HT.ue,bZ];lia
  have e2':pN (bx.map V.int) (some ((k:Int)+1)) none=(bx.drop (k+1)).map V.int:=by
   rw[NK _ (by rw[bZ];lia),List.map_drop]
  have s5:=zF hp4 (.tup (pN (bx.map V.int) (some ((k:Int)+1)) none))
  have all:(bx.take k++[v]).map V.int++(bx.drop (k+1)).map V.int=(d.upd sz bx).map V.int:=by
   rw[<-jd,U3 v hkl,hv]
  refine⟨t,p4,_,_,rfl,rfl,aK.of (s5 _ _ ht),aK.of zC,?_,?_,fun z=>?_,fun _ p5 O6=>?_⟩
  ·intro z;have:=congrArg List.length z;simp at this
  ·rw[e2',bZ,bZ,dW,jP,List.length_drop];exact zI (by show min k bx.length+1+_<=1000;lia)
  ·refine q t _ ((s1.trans s4).trans s5) ?_;rw[s5 _ _ ht,<-all];rw[e2']at z;rw[z,gQ]
  ·refine q p5 _ (((s1.trans s4).trans s5).trans (zF O6 _)) ?_;rw[zC,e2',all]
 ·refine⟨_,rfl,aF (aK.of e) rfl ⟨_,rfl,zI (by show 2<=1000;decide),fun p hp=>?_⟩⟩;refine (iZ rfl (.inr (aK.of zC)) ⟨rfl,rfl,_,rfl,O5 (by rcases hk with rfl | rfl <;> decide +kernel) ?_⟩);refine⟨_,rfl,q tb _ (zF hp _) ?_⟩;rw[hu];exact zF hp _ _ _ hb
end
end jY
namespace jY
open PySem L2 pQ rG S9
theorem qB7:¬ (("most" : Str) = "events"):=by decide +kernel
noncomputable def Io(m:Nat)(d:Addr):List (Str×V):=cP "events" (.ref d) (cP "most" (.int (m:Int)) [])
theorem gH(m:Nat)(d:Addr):(Io m d).lookup ("events" : Str)=some (.ref d):=by
 unfold Io;rw[aO,if_pos rfl]
theorem N6(m:Nat)(d:Addr):(Io m d).lookup ("most" : Str)=some (.int (m:Int)):=by
 unfold Io;rw[aO,if_neg qB7,aO,if_pos rfl]
theorem Bu(m:Nat)(d:Addr){x:Str}(h1:¬ x = "events")(h2:¬ x = "most"):(Io m d).lookup x=none:=by
 unfold Io;rw[aO,if_neg h1,aO,if_neg h2]
 all_goals rfl
noncomputable def LL(C:Addr):LA:=fun H p fp m l => ∃ dx d:Addr,fp=[p,d]/\H p=some (.ins C dx (Io m d))/\H d=some (.lst (l.map V.int))
theorem gY(C:Addr):qDZ C (LL C) where
 keep:=by
  rintro H H' p fp m l ⟨dx,d,rfl,h1,h2⟩ k;exact⟨dx,d,rfl,k p (by simp) _ h1,k d (by simp) _ h2⟩
 there:=by
  rintro H p fp m l ⟨dx,d,rfl,h1,h2⟩ b hb;rcases bI.mp hb with rfl | hb
  ·rw[h1];intro z
   cases z
  ·rw[cB.mp hb,h2];intro z
   cases z
 obj:=by
  rintro H p fp m l ⟨dx,d,rfl,h1,h2⟩;exact⟨dx,_,h1,Bu _ _ (by decide +kernel) (by decide +kernel),Bu _ _ (by decide +kernel) (by decide +kernel),Bu _ _ (by decide +kernel) (by decide +kernel)⟩
section
variable{P:Program}{w:World}{K:bO}{mg:Str->Option Value}{base:Heap}{C:Addr}
theorem U7:aH ["self","most"] ["self","most"] (aB Jv):=eO
theorem V5{f:Addr}{fd:FuncData}(F:cY K "__init__" "Letters.__init__" Jv f fd)(cl:uy K C)(nM:bR K C "most")(nE:bR K C "events"):aM P w K mg base aW 1 f fd ["self","most"] (Gv C (LL C)):=by
 refine F.ok U7 (fun vs H Q E h=>?_) (fun cdv A outer s H vs Q E hr h=>?_)
 ·refine aJ fun G_ g_=>?_;obtain⟨p,dx,m,rfl,_⟩:=h;apply g_;clear g_ G_;rfl
 refine aJ fun G_ g_=>?_;obtain⟨p,dx,m,rfl,hp,hm,k⟩:=h;apply g_;clear g_ G_;refine⟨_,(zE (sU (pv 0) (pv 1) rfl) (zG (sU (pv 0) (yK zD) rfl))),?_⟩;refine⟨_,rfl,_,rfl,p,C,dx,[],rfl,hp,cl,nM,(by show 0<1000;decide),Nat.zero_le _,fun d hd=>?_⟩
 have Qk:p≠d:=fun z=>by
  rw[<-z,zC]at hd
  cases hd
 have hd0:H d=none:=by
  rw[zQ (Ne.symm Qk)]at hd;exact hd
 refine⟨_,rfl,p,C,dx,_,rfl,(by rw[zQ Qk];exact zC),cl,nE,(by show 1<1000;decide),?_⟩;refine k [p,d] _ ⟨dx,d,rfl,zC,by rw[zQ (Ne.symm Qk),zC];rfl⟩ (fun b hb=>?_) fun b o e hb=>?_
 ·rcases bI.mp hb with rfl | hb
  ·exact .inl rfl
  ·rw[cB.mp hb];exact .inr hd0
 ·rw[zQ hb,zQ (zM e hd0),zQ hb];exact e
theorem XH:aH ["self","event"] ["self","event"] (aB U8):=eO
theorem Xw{f:Addr}{fd:FuncData}(F:cY K "add" "Letters.add" U8 f fd)(cl:uy K C)(nM:bR K C "most")(nE:bR K C "events")(aR:mg "len" = none):aM P w K mg base aW 1 f fd ["self","event"] (WD (LL C)):=by
 refine F.ok XH (fun vs H Q E h=>?_) (fun cdv A outer s H vs Q E hr h=>?_)
 ·refine aJ fun G_ g_=>?_;obtain⟨p,fp,m,l,e,rfl,_⟩:=h;apply g_;clear g_ G_;rfl
 refine aJ fun G_ g_=>?_;obtain⟨p,fp,m,l,e,rfl,⟨dx,d,rfl,h1,h2⟩,hl,hm,k⟩:=h;apply g_;clear g_ G_
 refine⟨_,(zE (yD (zL WR (zS zN rfl aR cA (zA (bh (pv 0) rfl) zD)) (bh (pv 0) rfl) (zR _))
  (zG (zO gF))
  zT)
  (zE (yI (dJ j7 pY pX yH (bh (pv 0) rfl) (zA (pv 1) zD)))
  (zG (zO gF)))),?_⟩
 refine⟨_,rfl,p,C,dx,_,_,rfl,h1,cl,nE,gH _ _,iZ rfl (.inl (aQ.of h2)) ⟨_,rfl,p,C,dx,_,_,rfl,h1,cl,nM,N6 _ _,_,_,rfl,rfl,_,rfl,?_⟩⟩;have Qk:p≠d:=bz h1 h2 (by intro z;cases z);refine oR (fun c=>?_) (fun c=>?_)
 ·have c':=of_decide_eq_true c;rw[bZ]at c'
  have c2:¬ l.length<m:=by lia
  have r:=k [p,d] H ⟨dx,d,rfl,h1,by unfold added;rw[if_neg c2];exact h2⟩ ⟨fun b hb=>.inl hb,fun b o eb _=>eb⟩;rw[decide_eq_false c2]at r;exact r
 ·have c':¬ ((m:Int)<=(((l.map V.int).length:Nat):Int)):=fun z=>c (decide_eq_true z);rw[bZ]at c'
  have c2:l.length<m:=by lia
  refine⟨_,rfl,p,C,dx,_,_,rfl,h1,cl,nE,gH _ _,.inl ⟨rfl,_,aQ.of h2⟩,_,rfl,d,_,_,rfl,rfl,h2,zV (by rw[bZ];lia),?_⟩
  have r:=k [p,d] (upd H d (.lst (l.map V.int++[.int e]))) ⟨dx,d,rfl,by rw[zQ Qk];exact h1,by unfold added;rw[if_pos c2,zC,jd];rfl⟩ ⟨fun b hb=>.inl hb,fun b o eb nb=>by
   rw[zQ (fun z:b=d=>nb (by rw[z];simp))]
   exact eb⟩
  rw[decide_eq_true c2]at r;exact r
theorem Gz:aH ["self"] ["self"] (aB qN):=eO
theorem HY{f:Addr}{fd:FuncData}(F:cY K "waiting" "Letters.waiting" qN f fd)(cl:uy K C)(nE:bR K C "events")(ie:mg "list" = none):aM P w K mg base aW 1 f fd ["self"] (xq (LL C)):=by
 refine F.ok Gz (fun vs H Q E h=>?_) (fun cdv A outer s H vs Q E hr h=>?_)
 ·refine aJ fun G_ g_=>?_;obtain⟨p,fp,m,l,rfl,_⟩:=h;apply g_;clear g_ G_;rfl
 refine aJ fun G_ g_=>?_;obtain⟨p,fp,m,l,rfl,⟨dx,d,rfl,h1,h2⟩,hl,hm,k⟩:=h;apply g_;clear g_ G_;refine⟨_,(zG (zO (yA fL rfl ie PyProof.Rows.boot_list (zA (bh (pv 0) rfl) zD)))),?_⟩;refine⟨_,rfl,p,C,dx,_,_,rfl,h1,cl,nE,gH _ _,iZ rfl (.inl (aQ.of h2)) (fun q hq=>?_)⟩;refine k q [p,d] _ ⟨dx,d,rfl,by rw[zQ (zM h1 hq)];exact h1,by rw[zQ (zM h2 hq)];exact h2⟩ ⟨fun b hb=>.inl hb,fun b o eb _=>zF hq _ b o eb⟩ hq (fun z=>?_) zC;rcases bI.mp z with z | z
 ·exact zM h1 hq z.symm
 ·exact zM h2 hq (cB.mp z).symm
theorem Pg:aH ["self"] ["self"] (aB BV):=eO
theorem QW{f:Addr}{fd:FuncData}(F:cY K "taken" "Letters.taken" BV f fd)(cl:uy K C)(nE:bR K C "events")(aR:mg "len" = none):aM P w K mg base aW 1 f fd ["self"] (Jg (LL C)):=by
 refine F.ok Pg (fun vs H Q E h=>?_) (fun cdv A outer s H vs Q E hr h=>?_)
 ·refine aJ fun G_ g_=>?_;obtain⟨p,fp,m,l,rfl,_⟩:=h;apply g_;clear g_ G_;rfl
 refine aJ fun G_ g_=>?_;obtain⟨p,fp,m,l,rfl,⟨dx,d,rfl,h1,h2⟩,hl,hm,k⟩:=h;apply g_;clear g_ G_
 refine⟨_,(zE (yD (zL yG (zS zN rfl aR cA (zA (bh (pv 0) rfl) zD)) zB (zR _))
  (zG (zO bf))
  zT)
  (zG (zO (dJ j7 PySem.F.slot_list_pop PySem.F.type_list_pop Qq (bh (pv 0) rfl) (zA zB zD))))),?_⟩
 refine⟨_,rfl,p,C,dx,_,_,rfl,h1,cl,nE,gH _ _,iZ rfl (.inl (aQ.of h2)) ⟨rfl,_,rfl,?_⟩⟩;have Qk:p≠d:=bz h1 h2 (by intro z;cases z)
 cases l with
 | nil=>exact O5 rfl (k [p,d] H ⟨dx,d,rfl,h1,h2⟩ ⟨fun b hb=>.inl hb,fun b o eb _=>eb⟩)
 | cons e l=>
  refine qp ?_ ?_
  ·rw[bZ];refine decide_eq_false fun z=>?_;injection z with z;rw[dz]at z;lia
  refine⟨_,rfl,p,C,dx,_,_,rfl,h1,cl,nE,gH _ _,.inl ⟨rfl,_,aQ.of h2⟩,d,_,0,0,.int e,rfl,rfl,h2,by decide,by decide,?_,rfl,?_⟩
  ·rw[bZ,dz];unfold seqIndex?;simp
  ·exact k [p,d] _ ⟨dx,d,rfl,by rw[zQ Qk];exact h1,zC⟩ ⟨fun b hb=>.inl hb,fun b o eb nb=>by
    rw[zQ (fun z:b=d=>nb (by rw[z];simp))]
    exact eb⟩
end
end jY
namespace jY
open PySem L2 pQ rG JQ S9
theorem JL{C:Addr}{H:Hp}{p t:Addr}{fp:List Addr}{m:Nat}{l:List Int}{xs:List V}(h:LL C H p fp m l)(ht:H t=some (.tup xs)):t∉fp:=by
 obtain⟨dx,d,rfl,h1,h2⟩:=h;intro z;rcases bI.mp z with z | z
 ·rw[z,h1]at ht
  cases ht
 ·rw[cB.mp z,h2]at ht
  cases ht
noncomputable def vH(L:LA):Sp:=fun vs H Q _ => ∃(vd:V)(tb p:Addr)(d:Dd)(bx sz l:List Int)(fp:List Addr)(m:Nat)(G:Hp),vs=[vd,.ref tb,.ref p]/\aG G H/\(∀ b∈fp,G b=none)/\tU G vd d/\G tb=some (.tup ((d.upd sz bx).map V.int))/\L H p fp m l/\d.ok bx.length/\bx.length<=6/\l.length<=m/\m<=12 ∧
 ∀(t:Addr)(fp':List Addr)(H':Hp),L H' p fp' m (d.YD m l)->az H H' fp fp'->H' t=some (.tup (d.rc sz m bx l).row)->t∉fp'->Q (.ref t) H'
section
variable{P:Program}{w:World}{K:bO}{mg:Str->Option Value}{base:Heap}{C:Addr}
theorem tX:aH ["deed","boxes","letters","kind"] ["deed","boxes","letters"] (aB nW):=eO
theorem Eb{n:Nat}{f ga:Addr}{fd da:FuncData}(F:cY K "recorded" "recorded" nW f fd)(cl:uy K C)(mA:Meth K C "add" ga)(qE0:aM P w K mg base aW n ga da ["self","event"] (WD (LL C)))(qDL:Binds K da ["self","event"] []) :
  aM P w K mg base aW (n+1) f fd ["deed","boxes","letters"] (vH (LL C)):=by
 refine F.ok tX (fun vs H Q E h=>?_) (fun cdv A outer s H vs Q E hr h=>?_)
 ·refine aJ fun G_ g_=>?_;obtain⟨vd,tb,p,d,bx,sz,l,fp,m,G,rfl,_⟩:=h;apply g_;clear g_ G_;rfl
 refine aJ fun G_ g_=>?_;obtain⟨vd,tb,p,d,bx,sz,l,fp,m,G,rfl,sg,ng,hd,hb,hL,hok,h6,hl,hm,k⟩:=h;apply g_;clear g_ G_
 refine⟨_,(zE (zK (i:=3) tX.nd rfl (Or.inl rfl) (yB zH (pv 0) zB (fun _ _=>rfl)))
  (zE (yD (zL yG (pv 3) zP (zR _))
  (zG (zO (zW (zA zP (zA (yB zH (pv 0) zB (fun _ _=>rfl)) zD)))))
  zT)
  (zE (yD (zL yG (pv 3) zP (zR _))
  (zG (zO (zW (zA (Dy (dY (qd (pv 2) cl mA qE0 hr qDL .nil yE (zA (yB zH (pv 0) zB (fun _ _=>rfl)) zD))) zP zP) (zA (yB zH (pv 0) zB (fun _ _=>rfl)) zD)))))
  zT)
  (zG (zO (zW (zA zP (zA (yB zH (pv 0) zB (fun _ _=>rfl)) (zA (yB zH (pv 1) (yB zH (pv 0) zB (fun _ _=>rfl)) (fun _ _=>rfl)) zD))))))))),?_⟩
 have nG:∀ b o,G b=some o->b∉fp:=fun b o e z=>by
  rw[ng b z]at e
  cases e
 have fin:∀ t:Addr,H t=none->∀ row:List V,row=(d.rc sz m bx l).row->d.YD m l=l->Q (.ref t) (upd H t (.tup row)):=fun t ht row e1 e2=>by
  have s1:=zF ht (.tup row);refine k t fp _ (by rw[e2];exact (gY C).keep hL fun b _ o e=>s1 b o e) ⟨fun b hb=>.inl hb,fun b o e _=>s1 b o e⟩ (by rw[zC,e1]) (fun z=>(gY C).there hL t z ht)
 have two:(∃(a:Addr)(kd:Str)(b n:Int),vd = .ref a/\G a=some (.tup [.str kd,.int b,.int n])/\(kd = "set" ∨ kd = "add")/\d.box=some b/\d.rc sz m bx l = .put b (at0 (d.upd sz bx) b)/\d.YD m l=l) ∨
   (∃(a:Addr)(wd:Str),vd = .ref a/\G a=some (.tup [.str "say",.str wd])/\d = .say wd)∨(∃(a:Addr)(ev:Int),vd = .ref a/\G a=some (.tup [.str "send",.int ev])/\d = .send ev):=by
  cases hd with
  | say e=>exact .inr (.inl ⟨_,_,rfl,e,rfl⟩)
  | send e=>exact .inr (.inr ⟨_,_,rfl,e,rfl⟩)
  | set e=>exact .inl ⟨_,_,_,_,rfl,e,.inl rfl,rfl,rfl,rfl⟩
  | add e=>exact .inl ⟨_,_,_,_,rfl,e,.inr rfl,rfl,rfl,rfl⟩
 rcases two with ⟨a,kd,b,n',rfl,e,hk,hbx,R8,qFZ⟩ | ⟨a,wd,rfl,e,rfl⟩ | ⟨a,ev,rfl,e,rfl⟩
 ·have e':=sg _ _ e;have hb':=sg _ _ hb;obtain⟨b0,b1⟩:=hok b hbx;have ul:=d.Jb sz bx;refine⟨_,rfl,aF (aK.of e') rfl ?_⟩;refine⟨_,rfl,rfl,_,rfl,yN (by rcases hk with rfl | rfl <;> decide +kernel) ?_⟩;refine⟨_,rfl,rfl,_,rfl,yN (by rcases hk with rfl | rfl <;> decide +kernel) ?_⟩;refine⟨_,rfl,aF (aK.of e') rfl ⟨_,rfl,_,rfl,aF (aK.of e') rfl (aF (aK.of hb') (wg b0 (by lia)) ⟨zI (by show 3<=1000;decide),fun t ht=>?_⟩)⟩⟩;exact fin t ht _ (by rw[R8];rfl) qFZ
 ·have e':=sg _ _ e;refine⟨_,rfl,aF (aK.of e') rfl ?_⟩;refine⟨_,rfl,rfl,_,rfl,yO ?_⟩;exact⟨_,rfl,aF (aK.of e') rfl ⟨zI (by show 2<=1000;decide),fun t ht=>fin t ht _ rfl rfl⟩⟩
 ·have e':=sg _ _ e;refine aJ fun G_ g_=>?_;obtain⟨dx,fs,ho,n1,n2,n3⟩:=(gY C).obj hL;apply g_;clear g_ G_;refine⟨_,rfl,aF (aK.of e') rfl ?_⟩;refine⟨_,rfl,rfl,_,rfl,yN (by decide +kernel) ?_⟩;refine⟨_,rfl,rfl,_,rfl,yO ?_⟩;refine⟨_,rfl,p,dx,fs,rfl,ho,n1,_,rfl,aF (aK.of e') rfl ⟨p,fp,m,l,ev,rfl,hL,hl,hm,fun fp' H1 hL1 st=>⟨_,rfl,?_⟩⟩⟩;have e1:=st.rest _ _ e' (nG _ _ e)
  have fin2:∀ t:Addr,H1 t=none->∀ row:List V,row=((Dd.send ev).rc sz m bx l).row->Q (.ref t) (upd H1 t (.tup row)):=fun t ht row er=>by
   have s1:=zF ht (.tup row);refine k t fp' _ ((gY C).keep hL1 fun b _ o e=>s1 b o e) ⟨st.own,fun b o e nb=>s1 b o (st.rest b o e nb)⟩ (by rw[zC,er]) (fun z=>(gY C).there hL1 t z ht)
  refine oR (fun c=>?_) (fun c=>?_)
  ·refine⟨_,rfl,aF (aK.of e1) rfl ⟨zI (by show 2<=1000;decide),fun t ht=>fin2 t ht _ ?_⟩⟩;show _=(if l.length<m then Rc.send ev else Rc.lost ev).row;rw[if_pos (of_decide_eq_true c)];rfl
  ·refine⟨_,rfl,aF (aK.of e1) rfl ⟨zI (by show 2<=1000;decide),fun t ht=>fin2 t ht _ ?_⟩⟩;show _=(if l.length<m then Rc.send ev else Rc.lost ev).row;rw[if_neg fun z=>c (decide_eq_true z)];rfl
theorem qG:aH ["deeds","boxes","sizes","letters","held","record","deed"] ["deeds","boxes","sizes","letters"] (aB Jx):=eO
theorem V9{n:Nat}{f gc gr:Addr}{fd dc dr:FuncData}(F:cY K "done" "done" Jx f fd)(Nv:Dp P w K mg base aW n gc dc ["deed","boxes","sizes"] yW "changed")
  (JT:Dp P w K mg base aW n gr dr ["deed","boxes","letters"] (vH (LL C)) "recorded") :
  aM P w K mg base aW (n+1) f fd ["deeds","boxes","sizes","letters"] (PN (LL C)):=by
 refine F.ok qG (fun vs H Q E h=>?_) (fun cdv A outer s H vs Q E hr h=>?_)
 ·refine aJ fun G_ g_=>?_;obtain⟨td,tb,ts,p,ds,bx,sz,l,dv,fp,m,G,rfl,_⟩:=h;apply g_;clear g_ G_;rfl
 refine aJ fun G_ g_=>?_;obtain⟨td,tb,ts,p,ds,bx,sz,l,dv,fp,m,G,rfl,sg,ng,htd,hds,htb,hts,hL,hok,h8,hbs,h6,hpos,hl,hm,q⟩:=h;apply g_;clear g_ G_
 refine⟨_,(zE (zK (i:=4) qG.nd rfl (Or.inl rfl) (pv 1))
  (zE (zK (i:=5) qG.nd rfl (Or.inl rfl) (yK zD))
  (zZ (bU PassesOwn.never rfl (pG (pv 0)) (yJ (i:=6) qG.nd rfl (Or.inl rfl))
  (zE (zK (i:=4) qG.nd rfl (Or.inl rfl) (pC Nv hr (zA (pv 6) (zA (pv 4) (zA (pv 2) zD)))))
  (zG (yI (dJ j7 pY pX yH (pv 5) (zA (pC JT hr (zA (pv 6) (zA (pv 4) (zA (pv 3) zD)))) zD))))))
  (zG (zO (zW (zA (pv 4) (zA (pv 5) zD)))))))),?_⟩
 have nG:∀ b o,G b=some o->b∉fp:=fun b o e z=>by
  rw[ng b z]at e
  cases e
 refine⟨_,rfl,Nat.zero_le _,fun pr hpr=>?_⟩;have s0:=zF hpr (.lst []);have Hs:pr∉fp:=fun z=>(gY C).there hL pr z hpr;have nds:=hds.length
 refine⟨fun σ' Hi => ∃(rP:Addr)(cL:List Addr)(rv:List V)(o6:Option V),σ'=[some (.ref td),some (.ref tb),some (.ref ts),some (.ref p),some (.ref rP),some (.ref pr),o6]/\LL C Hi p cL m (vW m ds l)/\az H Hi fp cL ∧
   Hi rP=some (.tup ((vY sz ds bx).map V.int))/\rP∉cL/\Hi pr=some (.lst rv)/\pr∉cL/\iw (wY cL Hi) rv (uL sz m ds bx l),?_,?_⟩
 ·refine⟨_,rfl,td,rfl,⟨_,aK.of (s0 _ _ (sg _ _ htd))⟩,?_⟩
  refine Kp (K:=K) (a:=td) (xs:=dv) (fun i σ' Hi => ∃(rP:Addr)(cL:List Addr)(rv:List V)(o6:Option V),σ'=[some (.ref td),some (.ref tb),some (.ref ts),some (.ref p),some (.ref rP),some (.ref pr),o6]/\LL C Hi p cL m (vW m (ds.take i) l)/\az H Hi fp cL ∧
   Hi rP=some (.tup ((vY sz (ds.take i) bx).map V.int))/\rP∉cL/\Hi pr=some (.lst rv)/\pr∉cL/\iw (wY cL Hi) rv (uL sz m (ds.take i) bx l))
   ⟨tb,fp,[],none,rfl,(gY C).keep hL fun b _ o e=>s0 b o e,⟨fun b hb=>.inl hb,fun b o e _=>s0 b o e⟩,s0 _ _ (sg _ _ htb),nG _ _ htb,zC,Hs,.nil⟩ ?_ ?_ ?_
  ·rintro i σ' Hi _ aP;refine aJ fun G_ g_=>?_;obtain⟨rP,cL,rv,o6,rfl,_,st,_⟩:=aP;apply g_;clear g_ G_;exact aK.of (st.rest _ _ (sg _ _ htd) (nG _ _ htd))
  ·rintro i x σ' Hi hx aP;refine aJ fun G_ g_=>?_;obtain⟨rP,cL,rv,o6,rfl,hLi,st,hbi,nbi,Ga,Ma,R8⟩:=aP;obtain⟨d,hd,hdi⟩:=hds.get hx;apply g_;clear g_ G_;have hdm:d∈ds:=Gf hd;have hil:i<ds.length:=(lQ.mp hd).1
   have gi:∀ b o,G b=some o->Hi b=some o/\b∉cL:=fun b o e=>by
    refine⟨st.rest b o (sg b o e) (nG b o e),fun z=>?_⟩;rcases st.own b z with y | y
    ·exact nG b o e y
    ·rw[sg b o e]at y
     cases y
   have lb:=vX sz (ds.take i) bx;have ll:=vV (m:=m) (ds.take i) l hl;refine⟨_,rfl,_,rfl,_,rfl,x,rP,ts,d,_,sz,rfl,hdi.mono (fun b xs e=>(gi b _ e).1),hbi,(gi _ _ hts).1,(by rw[lb];exact hok d hdm),(by rw[lb];exact hbs),(by rw[lb];exact h6),hpos,fun t H1 s1 ht=>?_⟩;have hL1:=(gY C).keep hLi fun b _ o e=>s1 b o e;have nt:=JL hL1 ht;have hr1:=s1 _ _ Ga;refine⟨_,rfl,.inl ⟨rfl,_,aQ.of hr1⟩,_,rfl,_,rfl,_,rfl,x,t,p,d,vY sz (ds.take i) bx,sz,vW m (ds.take i) l,cL,m,wY cL H1,rfl,fun b o e=>(oK e).1,fun b hb=>LK hb,?_,qz ht nt,hL1,(by rw[lb];exact hok d hdm),(by rw[lb];exact h6),ll,hm,fun t2 wQ H2 hL2 st2 Kg nt2=>?_⟩
   ·exact hdi.mono fun b xs e=>qz (s1 _ _ (gi b _ e).1) (gi b _ e).2
   have hr2:=st2.rest _ _ hr1 Ma
   have Tu:∀ b o,H1 b=some o->b∉cL->H2 b=some o/\b∉wQ:=fun b o e nb=>⟨st2.rest b o e nb,fun z=>by
    rcases st2.own b z with y | y
    ·exact nb y
    ·rw[e]at y
     cases y⟩
   have nr2:=(Tu _ _ hr1 Ma).2;have rl:=R8.length;rw[qU,jP]at rl;refine⟨pr,_,_,rfl,rfl,hr2,zV (by lia),?_⟩
   have Cr:ds.take (i+1)=ds.take i++[d]:=by
    rw[j8,hd];rfl
   refine⟨t,wQ,rv++[.ref t2],_,rfl,?_,⟨fun b hb=>?_,fun b o e nb=>?_⟩,?_,(Tu _ _ ht nt).2,zC,nr2,?_⟩
   ·rw[Cr,yd];refine (gY C).keep hL2 fun b hb o e=>?_;rw[zQ (fun z:b=pr=>nr2 (by rw[<-z];exact hb))];exact e
   ·by_cases z:b∈fp
    ·exact .inl z
    ·rcases st2.own b hb with y | y
     ·exact st.own b y
     ·right
      cases w':H b with
      | none=>rfl
      | some o=>
       have:=s1 _ _ (st.rest b o w' z);rw[y]at this
       cases this
   ·have bi:b∉cL:=fun z=>by
     rcases st.own b z with y | y
     ·exact nb y
     ·rw[e]at y
      cases y
    rw[zQ (zM e hpr)];exact st2.rest b o (s1 _ _ (st.rest b o e nb)) bi
   ·rw[zQ (bz ht hr1 (by intro z;cases z)),Cr,ye];exact (Tu _ _ ht nt).1
   ·rw[Cr,yc];refine (R8.mono fun b xs e=>?_).snoc (qz ?_ nt2)
    ·refine aJ fun G_ g_=>?_;obtain⟨e1,e2⟩:=oK e;obtain⟨e3,e4⟩:=Tu _ _ (s1 _ _ e1) e2;apply g_;clear g_ G_;refine qz ?_ e4;rw[zQ (bz e1 Ga (by intro z;cases z))];exact e3
    ·rw[zQ (bz Kg hr2 (by intro z;cases z))];exact Kg
  ·rintro σ' Hi aP;refine aJ fun G_ g_=>?_;obtain⟨rP,cL,rv,o6,h1,h2,h3,h4,h5,h6',h7,h8'⟩:=aP;apply g_;clear g_ G_;rw[nds,List.take_length]at h2 h4 h8';exact⟨rP,cL,rv,o6,h1,h2,h3,h4,h5,h6',h7,h8'⟩
 rintro σ' Hi aP;refine aJ fun G_ g_=>?_;obtain⟨rP,cL,rv,o6,rfl,hLi,st,hbi,nbi,Ga,Ma,R8⟩:=aP;apply g_;clear g_ G_;refine⟨_,rfl,_,rfl,zI (by show 2<=1000;decide),fun t ht=>?_⟩;have s1:=zF ht (.tup [.ref rP,.ref pr]);exact q t rP pr rv cL _ ((gY C).keep hLi fun b _ o e=>s1 b o e) ⟨st.own,fun b o e nb=>s1 b o (st.rest b o e nb)⟩ zC (s1 _ _ hbi) nbi (s1 _ _ Ga) hpr (R8.mono fun b xs e=>s1 _ _ (oK e).1)
end
end jY
namespace Ru
open PySem L2 pQ rG CN S9 JQ jY
open GP (Al)
inductive En where
 | rc (r:Rc)
 | inn (k:Nat)
 | out (k:Nat)
 | door (k:Nat)
 | thr (k:Nat)
 | take (e:Int)
noncomputable def En.row:En->List V
 | .rc r=>r.row
 | .inn k=>[.str "in",.int (k:Int)]
 | .out k=>[.str "out",.int (k:Int)]
 | .door k=>[.str "door",.int (k:Int)]
 | .thr k=>[.str "through",.int (k:Int)]
 | .take e=>[.str "take",.int e]
noncomputable def fO(H:Hp)(v:V)(e:En):Prop:=∃ a:Addr,v = .ref a/\H a=some (.tup e.row)
theorem fO.mono{H H':Hp}{v:V}{e:En}(x:fO H v e)(k:aA H H'):fO H' v e:=by
 obtain⟨a,h1,h2⟩:=x;exact⟨a,h1,k _ _ h2⟩
noncomputable def rH(H:Hp)(v:V)(ds:List Dd):Prop:=∃(a:Addr)(dv:List V),v = .ref a/\H a=some (.tup dv)/\gO H dv ds
theorem rH.mono{H H':Hp}{v:V}{ds:List Dd}(x:rH H v ds)(k:aA H H'):rH H' v ds:=by
 obtain⟨a,dv,h1,h2,h3⟩:=x;exact⟨a,dv,h1,k _ _ h2,h3.mono k⟩
noncomputable abbrev Sd:=En×List Dd
noncomputable def pP(H:Hp)(v:V)(s:Sd):Prop:=∃(a am:Addr)(dv:V),v = .ref a/\H a=some (.tup [.ref am,dv])/\H am=some (.tup s.1.row)/\rH H dv s.2
theorem pP.mono{H H':Hp}{v:V}{s:Sd}(x:pP H v s)(k:aA H H'):pP H' v s:=by
 obtain⟨a,am,dv,h1,h2,h3,h4⟩:=x;exact⟨a,am,dv,h1,k _ _ h2,k _ _ h3,h4.mono k⟩
noncomputable def sstep(sz:List Int)(m:Nat)(s:List Int×List Int×List En)(x:Sd):List Int×List Int×List En:=(vY sz x.2 s.1,vW m x.2 s.2.1,s.2.2++(x.1::(uL sz m x.2 s.1 s.2.1).map En.rc))
noncomputable def cC(sz:List Int)(m:Nat)(ss:List Sd)(bx l:List Int):List Int×List Int×List En:=ss.foldl (sstep sz m) (bx,l,[])
theorem pA(sz:List Int)(m:Nat)(ss:List Sd)(x:Sd)(bx l:List Int):cC sz m (ss++[x]) bx l=sstep sz m (cC sz m ss bx l) x:=by
 unfold cC;rw[List.foldl_append];rfl
theorem tL(sz:List Int)(m:Nat):∀(ss:List Sd)(s:List Int×List Int×List En),(ss.foldl (sstep sz m) s).1.length=s.1.length/\(s.2.1.length<=m->(ss.foldl (sstep sz m) s).2.1.length<=m)
 | [],s=>⟨rfl,fun h=>h⟩
 | x::ss,s=>by
  have ih:=tL sz m ss (sstep sz m s x);rw[List.foldl_cons];refine⟨by rw[ih.1];exact vX sz x.2 s.1,fun h=>ih.2 (vV x.2 s.2.1 h)⟩
theorem vD(sz:List Int)(m:Nat)(ss:List Sd)(bx l:List Int):(cC sz m ss bx l).1.length=bx.length:=(tL sz m ss _).1
theorem Ao{sz:List Int}{m:Nat}{ss:List Sd}{bx l:List Int}(h:l.length<=m):(cC sz m ss bx l).2.1.length<=m:=(tL sz m ss (bx,l,[])).2 h
theorem Kq(sz:List Int)(m:Nat):∀(ss:List Sd)(s:List Int×List Int×List En),(∀ x∈ss,x.2.length<=8)->(ss.foldl (sstep sz m) s).2.2.length<=s.2.2.length+9*ss.length
 | [],s,_=>by simp
 | x::ss,s,h=>by
  have ih:=Kq sz m ss (sstep sz m s x) fun y hy=>h y (GQ _ hy);have hx:=h x (Cu ..)
  have e:(sstep sz m s x).2.2.length=s.2.2.length+(1+x.2.length):=by
   show (s.2.2++(x.1::(uL sz m x.2 s.1 s.2.1).map En.rc)).length=_;rw[dW,dz,bZ,qU];lia
  rw[List.foldl_cons,dz];lia
theorem vC{sz:List Int}{m:Nat}{ss:List Sd}{bx l:List Int}(h:∀ x∈ss,x.2.length<=8):(cC sz m ss bx l).2.2.length<=9*ss.length:=by
 have:=Kq sz m ss (bx,l,[]) h;have e:(bx,l,([]:List En)).2.2.length=0:=rfl;rw[e,Nat.zero_add]at this;exact this
theorem XS{H:Hp}{rv:List V}{rs:List Rc}(x:iw H rv rs):Al (fO H) rv (rs.map En.rc):=by
 induction x with
 | nil=>exact .nil
 | cons h _ ih=>exact .cons ⟨_,rfl,h⟩ ih
theorem Al.app{α:Type}{R:V->α->Prop}{vs ws:List V}{rs ss:List α}(x:Al R vs rs)(y:Al R ws ss):Al R (vs++ws) (rs++ss):=by
 induction x with
 | nil=>exact y
 | cons h _ ih=>exact .cons h ih
theorem Al.cast{α:Type}{R:V->α->Prop}{vs ws:List V}{rs:List α}(e:vs=ws)(x:Al R ws rs):Al R vs rs:=by
 rw[e];exact x
theorem az.trans{H H1 H2:Hp}{fp fp1 wQ:List Addr}(a:az H H1 fp fp1)(b:az H1 H2 fp1 wQ):az H H2 fp wQ where
 own:=fun c hc=>by
  by_cases z:c∈fp
  ·exact .inl z
  ·rcases b.own c hc with y | y
   ·exact a.own c y
   ·right
    cases w':H c with
    | none=>rfl
    | some o=>
     have:=a.rest c o w' z;rw[y]at this
     cases this
 rest:=fun c o e nb=>b.rest c o (a.rest c o e nb) fun z=>by
  rcases a.own c z with y | y
  ·exact nb y
  ·rw[e]at y
   cases y
theorem az.same{H H':Hp}(fp:List Addr)(s:aG H H'):az H H' fp fp:=⟨fun _ h=>.inl h,fun b o e _=>s b o e⟩
theorem az.apart{H H':Hp}{fp fp':List Addr}(a:az H H' fp fp'){b:Addr}{o:HO}(e:H b=some o)(n:b∉fp):H' b=some o/\b∉fp':=⟨a.rest b o e n,fun z=>by
 rcases a.own b z with y | y
 ·exact n y
 ·rw[e]at y
  cases y⟩
theorem az.keep{C:Addr}{H H':Hp}{p:Addr}{fp fp':List Addr}{m:Nat}{l:List Int}(a:az H H' fp fp')(h:LL C H p fp m l):aA H H':=fun b xs e=>a.rest b _ e (JL h e)
theorem az.upd{H H':Hp}{fp fp':List Addr}(a:az H H' fp fp'){b:Addr}(n:H b=none)(o:HO):az H (upd H' b o) fp fp':=⟨a.own,fun c u e nc=>by
 rw[zQ (zM e n)]
 exact a.rest c u e nc⟩
theorem LL.same{C:Addr}{H H':Hp}{p:Addr}{fp:List Addr}{m:Nat}{l:List Int}(h:LL C H p fp m l)(s:aG H H'):LL C H' p fp m l:=(gY C).keep h fun b _ o e=>s b o e
theorem LL.upd{C:Addr}{H:Hp}{p b:Addr}{fp:List Addr}{m:Nat}{l:List Int}(h:LL C H p fp m l)(n:b∉fp)(o:HO):LL C (upd H b o) p fp m l:=(gY C).keep h fun c hc u e=>by
 rw[zQ (fun z:c=b=>n (by rw[<-z];exact hc))];exact e
theorem LL.new{C:Addr}{H:Hp}{p b:Addr}{fp:List Addr}{m:Nat}{l:List Int}(h:LL C H p fp m l)(n:H b=none):b∉fp:=fun z=>(gY C).there h b z n
noncomputable def Ny(H:Hp)(v:V)(z:Int):Prop:=∃(a:Addr)(n s:V),v = .ref a/\H a=some (.tup [n,.int z,s])
theorem Ny.mono{H H':Hp}{v:V}{z:Int}(x:Ny H v z)(k:aA H H'):Ny H' v z:=by
 obtain⟨a,n,s,h1,h2⟩:=x;exact⟨a,n,s,h1,k _ _ h2⟩
noncomputable def Aq:Sp:=fun vs H Q _ => ∃(pc pb:Addr)(x0 x1 x2 x4 x5 x6:V)(bv:List V)(sz:List Int),vs=[.ref pc]/\H pc=some (.tup [x0,x1,x2,.ref pb,x4,x5,x6])/\H pb=some (.tup bv)/\Al (Ny H) bv sz/\sz.length<=100/\∀(t:Addr)(H':Hp),aG H H'->H' t=some (.tup (sz.map V.int))->Q (.ref t) H'
noncomputable def Wm(H:Hp)(rs:List Rm)(di dO:Nat->List Dd):Prop:=∀(k:Nat)(r:Rm),rs[k]? = some r->rH H r.ins (di k)/\rH H r.outs (dO k)
theorem Wm.mono{H H':Hp}{rs:List Rm}{di dO:Nat->List Dd}(x:Wm H rs di dO)(k:aA H H'):Wm H' rs di dO:=fun j r h=>⟨(x j r h).1.mono k,(x j r h).2.mono k⟩
noncomputable def jh(f:Nat->En)(ins:Bool):Sp:=fun vs H Q _ => ∃(t pe:Addr)(rs:List Rm)(di dO:Nat->List Dd)(es:List Nat),vs=[.ref t,.ref pe]/\cW H t rs/\Wm H rs di dO/\H pe=some (.lst (aC es))/\(∀ k∈es,k<rs.length)/\es.length<=100/\∀(p:Addr)(sv:List V)(H':Hp),aG H H'->H p=none->H' p=some (.lst sv)->Al (pP H') sv (es.map fun k=>(f k,if ins=true then di k else dO k))->Q (.ref p) H'
noncomputable def outs(es:List En):List Nat:=es.filterMap fun e=>match e with
 | .out k=>some k
 | _=>none
noncomputable def Ox:Sp:=fun vs H Q _ => ∃(pr:Addr)(rv:List V)(es:List En),vs=[.ref pr]/\H pr=some (.lst rv)/\Al (fO H) rv es/\es.length<=1000/\∀(p:Addr)(H':Hp),aG H H'->H p=none->H' p=some (.lst (aC (outs es)))->Q (.ref p) H'
noncomputable def sE(C:Addr):Sp:=fun vs H Q _ => ∃(ps tb ts p:Addr)(sv:List V)(ss:List Sd)(bx sz l:List Int)(fp:List Addr)(m:Nat),vs=[.ref ps,.ref tb,.ref ts,.ref p]/\H ps=some (.lst sv)/\ps∉fp/\Al (pP H) sv ss/\H tb=some (.tup (bx.map V.int))/\H ts=some (.tup (sz.map V.int))/\LL C H p fp m l/\(∀ s∈ss,(∀ d∈s.2,d.ok bx.length)/\s.2.length<=8)/\ss.length<=110/\bx.length=sz.length/\bx.length<=6/\(∀ z∈sz,0<z)/\l.length<=m/\m<=12 ∧
 ∀(t tb' pr:Addr)(rv:List V)(fp':List Addr)(H':Hp),LL C H' p fp' m (cC sz m ss bx l).2.1->az H H' fp fp'->H' t=some (.tup [.ref tb',.ref pr])->H' tb'=some (.tup ((cC sz m ss bx l).1.map V.int))->H' pr=some (.lst rv)->H pr=none->pr∉fp'->Al (fO H') rv (cC sz m ss bx l).2.2->Q (.ref t) H'
section
variable{P:Program}{w:World}{K:bO}{mg:Str->Option Value}{base:Heap}{C:Addr}
theorem Dc:aH ["chart"] ["chart"] (aB iV):=eO
theorem Ea{f:Addr}{fd:FuncData}(F:cY K "sizes_of" "sizes_of" iV f fd)(aU:mg "tuple" = none):aM P w K mg base aW 1 f fd ["chart"] Aq:=by
 refine F.ok Dc (fun vs H Q E h=>?_) (fun cdv A outer s H vs Q E hr h=>?_)
 ·refine aJ fun G_ g_=>?_;obtain⟨pc,pb,x0,x1,x2,x4,x5,x6,bv,sz,rfl,_⟩:=h;apply g_;clear g_ G_;rfl
 refine aJ fun G_ g_=>?_;obtain⟨pc,pb,x0,x1,x2,x4,x5,x6,bv,sz,rfl,RB,hpb,hA,hz,q⟩:=h;apply g_;clear g_ G_;refine⟨_,(zG (zO (yA zX rfl aU lV (zA (yT (aX:=[]) rfl (show bD (aB iV) ["chart"] _ _ _ from xN) (pG (yB zH (pv 0) zB (fun _ _=>rfl))) (fun _ _ _ _ _ _=>cD) (fun _ _ _ _ _ _=>yB (r:=j9 K) zH (pv 0) zB (fun _ _=>rfl))) zD)))),?_⟩;have lb:=hA.length;refine⟨_,rfl,aF (aK.of RB) rfl ⟨pb,rfl,⟨_,aK.of hpb⟩,?_⟩⟩;refine mq (K:=K) (a:=pb) (xs:=bv) (fun i acc H'=>H'=H/\acc=(sz.take i).map V.int) ⟨rfl,rfl⟩ (fun i acc H' z=>by rw[z.1];exact aK.of hpb) ?_ ?_
 ·rintro i x acc H' hx ⟨rfl,rfl⟩
  have hi:i<sz.length:=by
   have:=(lQ.mp hx).1;lia
  have hk:=gq hi;refine aJ fun G_ g_=>?_;obtain⟨v,hv,a,n,s,rfl,h1⟩:=hA.get hk;apply g_;clear g_ G_;rw[hv]at hx;obtain rfl:=jO hx;refine⟨_,rfl,aF (aK.of h1) rfl ⟨by rw[bZ,jP,sizeLine_eq];lia,rfl,?_⟩⟩;rw[j8,hk,jd];rfl
 ·rintro acc H' ⟨rfl,rfl⟩ pl hpl;rw[xK (by lia)]at *;refine⟨pl,_,rfl,.inl ⟨aQ.of zC,fun p hp=>q p _ ((zF hpl _).trans (zF hp _)) zC⟩⟩
theorem xP:aH ["record"] ["record"] (aB eY):=eO
theorem Pz(e:En):∃(s:Str)(x:V)(r:List V),e.row = .str s::x::r/\(decide (V.str s=V.str ("out" : Str))=true->∃ k:Nat,e = .out k/\x = .int (k:Int))/\(decide (V.str s=V.str ("out" : Str))=false->∀ k,e≠.out k):=by
 cases e with
 | rc r=>cases r <;> exact⟨_,_,_,rfl,(fun z=>absurd z (by decide +kernel)),fun _ k z=>by cases z⟩
 | inn k=>exact⟨_,_,_,rfl,(fun z=>absurd z (by decide +kernel)),fun _ k z=>by cases z⟩
 | out k=>exact⟨_,_,_,rfl,fun _=>⟨k,rfl,rfl⟩,fun z=>absurd z (by decide +kernel)⟩
 | door k=>exact⟨_,_,_,rfl,(fun z=>absurd z (by decide +kernel)),fun _ k z=>by cases z⟩
 | thr k=>exact⟨_,_,_,rfl,(fun z=>absurd z (by decide +kernel)),fun _ k z=>by cases z⟩
 | take e=>exact⟨_,_,_,rfl,(fun z=>absurd z (by decide +kernel)),fun _ k z=>by cases z⟩
theorem yl(es:List En)(e:En):outs (es++[e])=outs es++(match e with
  | .out k=>[k]
  | _=>[]):=by
 unfold outs;rw[List.filterMap_append]
 cases e <;> rfl
theorem xT{f:Addr}{fd:FuncData}(F:cY K "rooms_left" "rooms_left" eY f fd):aM P w K mg base aW 1 f fd ["record"] Ox:=by
 refine F.ok xP (fun vs H Q E h=>?_) (fun cdv A outer s H vs Q E hr h=>?_)
 ·refine aJ fun G_ g_=>?_;obtain⟨pr,rv,es,rfl,_⟩:=h;apply g_;clear g_ G_;rfl
 refine aJ fun G_ g_=>?_;obtain⟨pr,rv,es,rfl,hpr,hA,hz,q⟩:=h;apply g_;clear g_ G_;refine⟨_,(zG (zO (yT (aX:=[]) rfl (show bD (aB eY) ["record"] _ _ _ from xN) (yM (pv 0)) (fun _ _ _ _ _ _=>fG (zL (r:=rEq) yG (yB (r:=j9 K) zH (pv 0) zB (fun _ _=>rfl)) zP (zR _))) (fun _ _ _ _ _ _=>yB (r:=j9 K) zH (pv 0) zB (fun _ _=>rfl))))),?_⟩;have lr:=hA.length;refine⟨_,rfl,pr,rfl,⟨_,aQ.of hpr⟩,?_⟩;refine yS (K:=K) (a:=pr) (xs:=rv) (fun i acc H'=>H'=H/\acc.length<=i/\acc=aC (outs (es.take i))) ⟨rfl,bM _,rfl⟩ (fun i acc H' z=>by rw[z.1];exact aQ.of hpr) ?_ ?_
 ·rintro i x acc H' hx aP;refine aJ fun G_ g_=>?_;obtain⟨rfl,la,rfl⟩:=aP
  have hi:i<es.length:=by
   have:=(lQ.mp hx).1;lia
  have hk:=gq hi;obtain⟨v,hv,a,rfl,h1⟩:=hA.get hk;apply g_;clear g_ G_;rw[hv]at hx;obtain rfl:=jO hx
  have Cr:es.take (i+1)=es.take i++[es[i]]:=by
   rw[j8,hk];rfl
  refine aJ fun G_ g_=>?_;obtain⟨s',x',r',e1,e2,e3⟩:=Pz es[i];apply g_;clear g_ G_;rw[e1]at h1;refine⟨_,rfl,a,_,_,V.str s',rfl,rfl,aK.of h1,(yQ (j:=0) (v:=V.str s') rfl),(show U4 (V.str s') (V.str ("out" : Str))=true from rfl),_,rfl,fH (fun c=>?_) (fun c=>?_)⟩
  ·refine aJ fun G_ g_=>?_;obtain⟨k,ek,rfl⟩:=e2 c;apply g_;clear g_ G_;refine⟨_,rfl,aF (aK.of h1) ((yQ (j:=1) rfl)) ⟨by rw[sizeLine_eq];lia,rfl,by rw[dW,gj];lia,?_⟩⟩;rw[Cr,yl,ek];unfold aC;rw[jd];rfl
  ·refine⟨rfl,by lia,?_⟩;rw[Cr,yl];have e3:=e3 c;generalize es[i]=e at e3
   cases e with
   | out k=>exact absurd rfl (e3 k)
   | rc r=>rw[gQ]
   | inn k=>rw[gQ]
   | door k=>rw[gQ]
   | thr k=>rw[gQ]
   | take k=>rw[gQ]
 ·rintro acc H' ⟨rfl,_,rfl⟩ pl hpl;rw[xK (by lia)];exact q pl _ (zF hpl _) hpl zC
theorem DY:aH ["rooms","entered"] ["rooms","entered"] (aB iU):=eO
theorem EY{f:Addr}{fd:FuncData}(F:cY K "steps_in" "steps_in" iU f fd):aM P w K mg base aW 1 f fd ["rooms","entered"] (jh En.inn true):=by
 refine F.ok DY (fun vs H Q E h=>?_) (fun cdv A outer s H vs Q E hr h=>?_)
 ·refine aJ fun G_ g_=>?_;obtain⟨t,pe,rs,di,dO,es,rfl,_⟩:=h;apply g_;clear g_ G_;rfl
 refine aJ fun G_ g_=>?_;obtain⟨t,pe,rs,di,dO,es,rfl,hR,hD,hpe,hlt,hz,q⟩:=h;apply g_;clear g_ G_;refine⟨_,(zG (zO (yT (aX:=[(0,"rooms")]) rfl (show bD (aB iU) ["rooms","entered"] _ _ _ from xN) (yM (pv 1)) (fun _ _ _ _ _ _=>cD) (fun _ _ _ _ _ _=>(zW (zA (zW (zA zP (zA (pv 0) zD))) (zA (yB (r:=j9 K) zH (yB (r:=j9 K) zH (pv 1) (pv 0) (fun _ _=>rfl)) zB (fun _ _=>rfl)) zD))))))),?_⟩;refine⟨_,rfl,pe,rfl,⟨_,aQ.of hpe⟩,?_⟩;refine yS (K:=K) (a:=pe) (xs:=aC es) (fun i acc H'=>aG H H'/\acc.length=i/\Al (pP H') acc ((es.take i).map fun k=>(En.inn k,di k))) ⟨aG.refl _,rfl,.nil⟩ (fun i acc H' z=>aQ.of (z.1 _ _ hpe)) ?_ ?_
 ·rintro i x acc H' hx aP;refine aJ fun G_ g_=>?_;obtain⟨s1,la,hA⟩:=aP;obtain⟨hi,rfl⟩:=yR hx;apply g_;clear g_ G_;have hk:=gq hi;have hm:=hlt _ (je hi);generalize es[i]=k at hk hm;refine aJ fun G_ g_=>?_;obtain⟨vs,a,r,hv,_,hr',hat,ha⟩:=(hR.mono (aA.of s1)).at hm;apply g_;clear g_ G_;have hd:=(hD k r hr').1;refine⟨_,rfl,zI (by show 2<=1000;decide),fun p hp=>?_⟩;have u2:=zF hp (.tup [V.str ("in" : Str),V.int (k:Int)]);have h2p:upd H' p (.tup [V.str ("in" : Str),V.int (k:Int)]) p=some (.tup (En.inn k).row):=zC;generalize upd H' p (.tup [V.str ("in" : Str),V.int (k:Int)])=H2 at u2 h2p ⊢;refine⟨_,rfl,_,rfl,aF (aK.of (u2 _ _ hv)) hat (aF (aK.of (u2 _ _ ha)) rfl ⟨zI (by show 2<=1000;decide),fun p2 hp2=>⟨by rw[sizeLine_eq];lia,s1.trans (u2.trans (zF hp2 _)),by rw[dW,gj,la],?_⟩⟩)⟩;have u3:=zF hp2 (.tup [V.ref p,r.ins]);rw[j8,hk,jd];exact (hA.mono fun _ _ z=>z.mono (aA.of (u2.trans u3))).snoc ⟨p2,p,r.ins,rfl,zC,u3 _ _ h2p,hd.mono (aA.of (s1.trans (u2.trans u3)))⟩
 ·rintro acc H' ⟨s1,la,hA⟩ pl hpl;rw[zU]at hA;rw[xK (bM _)]at hA;exact q pl acc _ (s1.trans (zF hpl _)) (s1.free hpl) zC (hA.mono fun _ _ z=>z.mono (aA.of (zF hpl _)))
theorem BJ:aH ["rooms","left"] ["rooms","left"] (aB fj):=eO
theorem Bd{f:Addr}{fd:FuncData}(F:cY K "steps_out" "steps_out" fj f fd):aM P w K mg base aW 1 f fd ["rooms","left"] (jh En.out false):=by
 refine F.ok BJ (fun vs H Q E h=>?_) (fun cdv A outer s H vs Q E hr h=>?_)
 ·refine aJ fun G_ g_=>?_;obtain⟨t,pe,rs,di,dO,es,rfl,_⟩:=h;apply g_;clear g_ G_;rfl
 refine aJ fun G_ g_=>?_;obtain⟨t,pe,rs,di,dO,es,rfl,hR,hD,hpe,hlt,hz,q⟩:=h;apply g_;clear g_ G_;refine⟨_,(zG (zO (yT (aX:=[(0,"rooms")]) rfl (show bD (aB fj) ["rooms","left"] _ _ _ from xN) (yM (pv 1)) (fun _ _ _ _ _ _=>cD) (fun _ _ _ _ _ _=>(zW (zA (zW (zA zP (zA (pv 0) zD))) (zA (yB (r:=j9 K) zH (yB (r:=j9 K) zH (pv 1) (pv 0) (fun _ _=>rfl)) zB (fun _ _=>rfl)) zD))))))),?_⟩;refine⟨_,rfl,pe,rfl,⟨_,aQ.of hpe⟩,?_⟩;refine yS (K:=K) (a:=pe) (xs:=aC es) (fun i acc H'=>aG H H'/\acc.length=i/\Al (pP H') acc ((es.take i).map fun k=>(En.out k,dO k))) ⟨aG.refl _,rfl,.nil⟩ (fun i acc H' z=>aQ.of (z.1 _ _ hpe)) ?_ ?_
 ·rintro i x acc H' hx aP;refine aJ fun G_ g_=>?_;obtain⟨s1,la,hA⟩:=aP;obtain⟨hi,rfl⟩:=yR hx;apply g_;clear g_ G_;have hk:=gq hi;have hm:=hlt _ (je hi);generalize es[i]=k at hk hm;refine aJ fun G_ g_=>?_;obtain⟨vs,a,r,hv,_,hr',hat,ha⟩:=(hR.mono (aA.of s1)).at hm;apply g_;clear g_ G_;have hd:=(hD k r hr').2;refine⟨_,rfl,zI (by show 2<=1000;decide),fun p hp=>?_⟩;have u2:=zF hp (.tup [V.str ("out" : Str),V.int (k:Int)]);have h2p:upd H' p (.tup [V.str ("out" : Str),V.int (k:Int)]) p=some (.tup (En.out k).row):=zC;generalize upd H' p (.tup [V.str ("out" : Str),V.int (k:Int)])=H2 at u2 h2p ⊢;refine⟨_,rfl,_,rfl,aF (aK.of (u2 _ _ hv)) hat (aF (aK.of (u2 _ _ ha)) rfl ⟨zI (by show 2<=1000;decide),fun p2 hp2=>⟨by rw[sizeLine_eq];lia,s1.trans (u2.trans (zF hp2 _)),by rw[dW,gj,la],?_⟩⟩)⟩;have u3:=zF hp2 (.tup [V.ref p,r.outs]);rw[j8,hk,jd];exact (hA.mono fun _ _ z=>z.mono (aA.of (u2.trans u3))).snoc ⟨p2,p,r.outs,rfl,zC,u3 _ _ h2p,hd.mono (aA.of (s1.trans (u2.trans u3)))⟩
 ·rintro acc H' ⟨s1,la,hA⟩ pl hpl;rw[zU]at hA;rw[xK (bM _)]at hA;exact q pl acc _ (s1.trans (zF hpl _)) (s1.free hpl) zC (hA.mono fun _ _ z=>z.mono (aA.of (zF hpl _)))
theorem dX:aH ["steps","boxes","sizes","letters","held","record","mark","deeds","told"] ["steps","boxes","sizes","letters"] (aB nQ):=eO
theorem Hf{n:Nat}{f gd:Addr}{fd dd:FuncData}(F:cY K "stepped" "stepped" nQ f fd)(ZG:Dp P w K mg base aW n gd dd ["deeds","boxes","sizes","letters"] (PN (LL C)) "done") :
  aM P w K mg base aW (n+1) f fd ["steps","boxes","sizes","letters"] (sE C):=by
 refine F.ok dX (fun vs H Q E h=>?_) (fun cdv A outer s H vs Q E hr h=>?_)
 ·refine aJ fun G_ g_=>?_;obtain⟨ps,tb,ts,p,sv,ss,bx,sz,l,fp,m,rfl,_⟩:=h;apply g_;clear g_ G_;rfl
 refine aJ fun G_ g_=>?_;obtain⟨ps,tb,ts,p,sv,ss,bx,sz,l,fp,m,rfl,hps,nps,hA,htb,hts,hL,hok,hss,hbs,h6,hpos,hl,hm,q⟩:=h;apply g_;clear g_ G_
 refine⟨_,(zE (zK (i:=4) dX.nd rfl (Or.inl rfl) (pv 1))
  (zE (zK (i:=5) dX.nd rfl (Or.inl rfl) (yK zD))
  (zZ (bU PassesOwn.never rfl (yM (pv 0)) (QC rfl (qZ (yJ (i:=6) dX.nd rfl (Or.inl rfl)) (qZ (yJ (i:=7) dX.nd rfl (Or.inl rfl)) K9)))
  (zE (zK (i:=8) dX.nd rfl (Or.inl rfl) (pC ZG hr (zA (pv 7) (zA (pv 4) (zA (pv 2) (zA (pv 3) zD))))))
  (zE (zK (i:=4) dX.nd rfl (Or.inl rfl) (yB zH (pv 8) zB (fun _ _=>rfl)))
  (zE (yI (dJ j7 pY pX yH (pv 5) (zA (pv 6) zD)))
  (zG (yI (dJ j7 PySem.F.slot_list_extend PySem.F.type_list_extend iK (pv 5) (zA (yB zH (pv 8) zB (fun _ _=>rfl)) zD))))))))
  (zG (zO (zW (zA (pv 4) (zA (pv 5) zD)))))))),?_⟩
 have Y9:=hA.length;refine⟨_,rfl,Nat.zero_le _,fun pr hpr=>?_⟩;have u0:=zF hpr (.lst []);have Hs:pr∉fp:=LL.new hL hpr;refine⟨fun σ' Hi => ∃(rP:Addr)(cL:List Addr)(rv:List V)(o6 o7 o8:Option V),σ'=[some (.ref ps),some (.ref tb),some (.ref ts),some (.ref p),some (.ref rP),some (.ref pr),o6,o7,o8]/\LL C Hi p cL m (cC sz m ss bx l).2.1/\az H Hi fp cL/\Hi rP=some (.tup ((cC sz m ss bx l).1.map V.int))/\Hi pr=some (.lst rv)/\pr∉cL/\Al (fO Hi) rv (cC sz m ss bx l).2.2,?_,?_⟩
 ·refine⟨_,rfl,ps,rfl,⟨_,aQ.of (u0 _ _ hps)⟩,?_⟩;refine fK (K:=K) (a:=ps) (xs:=sv) (fun i σ' Hi => ∃(rP:Addr)(cL:List Addr)(rv:List V)(o6 o7 o8:Option V),σ'=[some (.ref ps),some (.ref tb),some (.ref ts),some (.ref p),some (.ref rP),some (.ref pr),o6,o7,o8]/\LL C Hi p cL m (cC sz m (ss.take i) bx l).2.1/\az H Hi fp cL/\Hi rP=some (.tup ((cC sz m (ss.take i) bx l).1.map V.int))/\Hi pr=some (.lst rv)/\pr∉cL/\Al (fO Hi) rv (cC sz m (ss.take i) bx l).2.2)
   ⟨tb,fp,[],_,_,_,rfl,LL.same hL u0,az.same fp u0,u0 _ _ htb,zC,Hs,.nil⟩ (fun i σ' Hi _ ⟨_,_,_,_,_,_,_,_,st,_⟩=>aQ.of (st.rest _ _ hps nps)) ?_ ?_
  ·rintro i x σ' Hi hx aP;refine aJ fun G_ g_=>?_;obtain⟨rP,cL,rv,o6,o7,o8,rfl,hLi,st,hbi,Ga,Ma,R8⟩:=aP
   have hi:i<ss.length:=by
    have:=(lQ.mp hx).1;lia
   have hk:=gq hi;have hmem:=je hi
   have Cr:ss.take (i+1)=ss.take i++[ss[i]]:=by
    rw[j8,hk];rfl
   obtain⟨v,hv,a,am,Vk,rfl,h1,h2,ad,dv,rfl,h3,h4⟩:=hA.get hk;apply g_;clear g_ G_;rw[hv]at hx;obtain rfl:=jO hx;have kt:aA H Hi:=az.keep st hL;obtain⟨ok1,ok2⟩:=hok _ hmem;have lb:=vD sz m (ss.take i) bx l;have ll:=Ao (sz:=sz) (ss:=ss.take i) (bx:=bx) hl;have les:=vC (sz:=sz) (m:=m) (ss:=ss.take i) (bx:=bx) (l:=l) fun y hy=>(hok y (List.mem_of_mem_take hy)).2;have VR:=R8.length;rw[jP]at les;generalize ss[i]=sd at Cr h2 h4 ok1 ok2;have gk:aA Hi (wY cL Hi):=fun b xs e=>qz e (JL hLi e);refine⟨a,_,rfl,aK.of (kt _ _ h1),rfl,_,_,rfl,_,_,rfl,rfl,?_⟩;refine⟨_,rfl,_,rfl,_,rfl,_,rfl,ad,rP,ts,p,sd.2,_,sz,_,dv,cL,m,wY cL Hi,rfl,fun b o e=>(oK e).1,fun b hb=>LK hb,gk _ _ (kt _ _ h3),h4.mono (kt.trans gk),gk _ _ hbi,gk _ _ (kt _ _ hts),hLi,(by rw[lb];exact ok1),ok2,(by rw[lb];exact hbs),(by rw[lb];exact h6),hpos,ll,hm,fun t tb2 O3 uK wQ H2 hL2 st2 Kg hb2 nb2 hr2 Hq qBV=>?_⟩;have Yh:=(az.apart st2 Ga Ma).1;have nr3:=(az.apart st2 Ga Ma).2;have k2:=az.keep st2 hLi
   have ne2:O3≠pr:=fun z=>by
    rw[z,Ga]at Hq
    cases Hq
   refine⟨_,rfl,aF (aK.of Kg) rfl ?_⟩;refine⟨_,rfl,.inl ⟨rfl,_,aQ.of Yh⟩,_,rfl,pr,rv,_,rfl,rfl,Yh,(by rw[sizeLine_eq];lia),?_⟩;have k3:=aA.lst Yh (.lst (rv++[.ref am]));have h3r:upd H2 pr (.lst (rv++[.ref am])) pr=some (.lst (rv++[.ref am])):=zC
   have h3p:upd H2 pr (.lst (rv++[.ref am])) O3=some (.lst uK):=by
    rw[zQ ne2];exact hr2
   have st3:az H (upd H2 pr (.lst (rv++[.ref am]))) fp wQ:=az.upd (az.trans st st2) hpr _;have Zf:=LL.upd hL2 nr3 (.lst (rv++[.ref am]));generalize upd H2 pr (.lst (rv++[.ref am]))=H3 at k3 h3r h3p st3 Zf ⊢;have lr2:=qBV.length;rw[qU]at lr2;refine⟨_,rfl,.inl ⟨rfl,_,aQ.of h3r⟩,_,rfl,aF (aK.of (k3 _ _ Kg)) rfl ⟨pr,O3,_,_,rfl,rfl,h3r,h3p,(by rw[dW,gj,sizeLine_eq];lia),?_⟩⟩;have k4:=aA.lst h3r (.lst (rv++[.ref am]++uK));have FP:=k2.trans (k3.trans k4);refine⟨tb2,wQ,_,_,_,_,rfl,?_,az.upd st3 hpr _,?_,zC,nr3,?_⟩
   ·rw[Cr,pA];exact LL.upd Zf nr3 _
   ·rw[Cr,pA];exact (k3.trans k4) _ _ hb2
   ·rw[Cr,pA];show Al _ _ ((cC sz m (ss.take i) bx l).2.2++(sd.1::_));refine Al.cast (show rv++[V.ref am]++uK=rv++(V.ref am::uK) by rw[List.append_assoc];rfl) ?_;exact Al.app (R8.mono fun _ _ z=>z.mono FP) (.cons ⟨am,rfl,FP _ _ (kt _ _ h2)⟩ (XS (qBV.mono (k3.trans k4))))
  ·rintro σ' Hi aP;refine aJ fun G_ g_=>?_;obtain⟨rP,cL,rv,o6,o7,o8,z1,z2,z3,z4,z5,z6,z7⟩:=aP;apply g_;clear g_ G_;rw[Y9,List.take_length]at z2 z4 z7;exact⟨rP,cL,rv,o6,o7,o8,z1,z2,z3,z4,z5,z6,z7⟩
 rintro σ' Hi aP;refine aJ fun G_ g_=>?_;obtain⟨rP,cL,rv,o6,o7,o8,rfl,hLi,st,hbi,Ga,Ma,R8⟩:=aP;apply g_;clear g_ G_;refine⟨_,rfl,_,rfl,zI (by show 2<=1000;decide),fun t ht=>?_⟩;have u1:=zF ht (.tup [.ref rP,.ref pr]);exact q t rP pr rv cL _ (LL.same hLi u1) (az.trans st (az.same cL u1)) zC (u1 _ _ hbi) (u1 _ _ Ga) hpr Ma (R8.mono fun _ _ z=>z.mono (aA.of u1))
inductive Wy where
 | to (g:Nat)
 | back (g:Nat)
 | stay
noncomputable def Wy.tx:Wy->Str
 | .to _ => "to"
 | .back _ => "back"
 | .stay => "stay"
noncomputable def Wy.gv:Wy->V
 | .to g=>.int (g:Int)
 | .back g=>.int (g:Int)
 | .stay=>.non
noncomputable def Wy.gl:Wy->Nat
 | .to g=>g
 | .back g=>g
 | .stay=>0
structure Dx where
 room:Nat
 ev:Int
 g:Gd
 dd:List Dd
 way:Wy
noncomputable def xF(H:Hp)(v:V)(d:Dx):Prop:=∃(a:Addr)(gv dv:V),v = .ref a/\H a=some (.tup [.int (d.room:Int),.int d.ev,gv,dv,.str d.way.tx,d.way.gv])/\jc H gv d.g/\rH H dv d.dd
theorem xF.mono{H H':Hp}{v:V}{d:Dx}(x:xF H v d)(k:aA H H'):xF H' v d:=by
 obtain⟨a,gv,dv,h1,h2,h3,h4⟩:=x;exact⟨a,gv,dv,h1,k _ _ h2,h3.mono k,h4.mono k⟩
structure dC where
 od:Str
 lb:Nat
 tn:Nat
 sz:List Int
 rs:List Rm
 di:Nat->List Dd
 dO:Nat->List Dd
 ds:List Dx
noncomputable def rN(H:Hp)(pc:Addr)(c:dC):Prop:=∃(pb t pd:Addr)(x4:V)(bv dv:List V),H pc=some (.tup [.str c.od,.int (c.lb:Int),.int (c.tn:Int),.ref pb,x4,.ref t,.ref pd])/\H pb=some (.tup bv)/\Al (Ny H) bv c.sz/\cW H t c.rs/\Wm H c.rs c.di c.dO/\H pd=some (.tup dv)/\Al (xF H) dv c.ds
theorem rN.mono{H H':Hp}{pc:Addr}{c:dC}(x:rN H pc c)(k:aA H H'):rN H' pc c:=by
 obtain⟨pb,t,pd,x4,bv,dv,h1,h2,h3,h4,h5,h6,h7⟩:=x;exact⟨pb,t,pd,x4,bv,dv,k _ _ h1,k _ _ h2,h3.mono fun _ _ z=>z.mono k,h4.mono k,h5.mono k,k _ _ h6,h7.mono fun _ _ z=>z.mono k⟩
structure rM(c:dC):Prop where
 good:Tr.Good (aD c.rs)
 r40:c.rs.length<=40
 b6:c.sz.length<=6
 pos:∀ z∈c.sz,0<z
 TQ:c.lb<=12
 ins:∀ k:Nat,(∀ d∈c.di k,d.ok c.sz.length)/\(c.di k).length<=8
 outs:∀ k:Nat,(∀ d∈c.dO k,d.ok c.sz.length)/\(c.dO k).length<=8
 d63:c.ds.length<=63
 door:∀ d∈c.ds,d.room<c.rs.length/\d.way.gl<c.rs.length/\(∀ x∈d.dd,x.ok c.sz.length)/\d.dd.length<=8
structure S4 where
 os:List Nat
 bx:List Int
 ks:List (List Nat)
 l:List Int
noncomputable def fM(H:Hp)(ps:Addr)(s:S4):Prop:=∃(po pb pk:Addr)(kv:List V),H ps=some (.tup [.ref po,.ref pb,.ref pk])/\H po=some (.tup (aC s.os))/\H pb=some (.tup (s.bx.map V.int))/\H pk=some (.tup kv)/\bV H kv s.ks
theorem fM.mono{H H':Hp}{ps:Addr}{s:S4}(x:fM H ps s)(k:aA H H'):fM H' ps s:=by
 obtain⟨po,pb,pk,kv,h1,h2,h3,h4,h5⟩:=x;exact⟨po,pb,pk,kv,k _ _ h1,k _ _ h2,k _ _ h3,k _ _ h4,h5.mono k⟩
structure jX(c:dC)(s:S4):Prop where
 inc:s.os.Pairwise (· < ·)
 lt:∀ o∈s.os,o<c.rs.length
 VH:s.os.length<=40
 bx:s.bx.length=c.sz.length
 ks:s.ks.length=c.rs.length
 l:s.l.length<=c.lb
noncomputable def jG(w:Wy)(ks:List (List Nat)):List Nat:=match w with
 | .to g=>[g]
 | .back g=>if ks.getD g []=[] then [g] else ks.getD g []
 | .stay=>[]
noncomputable def tD:Wy->Bool
 | .stay=>true
 | _=>false
noncomputable def pL(c:dC)(d:Dx):Option Nat:=Tr.hall (aD c.rs) (JN.isOne c.rs) d.room d.way.gl
noncomputable def bQ(c:dC)(d:Dx)(os:List Nat):List Nat:=if tD d.way=true then [] else JM.jT (aD c.rs) (pL c d) os
noncomputable def mZ(c:dC)(d:Dx)(os:List Nat)(ks:List (List Nat)):List (List Nat):=if tD d.way=true then ks else bH c.rs os (bQ c d os) ks
noncomputable def tR(c:dC)(d:Dx)(ks:List (List Nat))(ms:List Nat):Prop:=if tD d.way=true then ms=[] else Tr.Td (aD c.rs) (Nj c.rs) (jG d.way ks) (pL c d) ms
noncomputable def cU(c:dC)(d:Dx)(os:List Nat):List Nat:=os.filter fun o => !inV (.int (o:Int)) (aC (bQ c d os))
noncomputable def eU(c:dC)(k:Nat)(d:Dx)(os ms:List Nat):List Sd:=[(En.door k,[])]++((bQ c d os).map fun r=>(En.out r,c.dO r))++[(En.thr k,d.dd)]++ms.map fun r=>(En.inn r,c.di r)
noncomputable def Ab(c:dC)(k:Nat)(s:S4)(es:List En)(s':S4):Prop:=∃(d:Dx)(ms:List Nat),c.ds[k]? = some d/\tR c d (mZ c d s.os s.ks) ms/\s'.os.Perm (cU c d s.os++ms)/\s'.os.Pairwise (· < ·)/\s'.ks=mZ c d s.os s.ks/\(s'.bx,s'.l,es)=cC c.sz c.lb (eU c k d s.os ms) s.bx s.l
noncomputable def Lh(c:dC)(d:Dx)(os:List Nat)(ks:List (List Nat)):Prop:=(∀ g∈jG d.way (mZ c d os ks),g<c.rs.length)/\(jG d.way (mZ c d os ks)).length<=100/\∀ ms:List Nat,tR c d (mZ c d os ks) ms->(cU c d os++ms).Nodup/\(cU c d os++ms).length<=40/\∀ k∈ms,k<c.rs.length
noncomputable def Jl:Sp:=fun vs H Q _ => ∃(pc pk:Addr)(kv:List V)(ks:List (List Nat))(c:dC)(k:Nat)(d:Dx),vs=[.ref pc,.ref pk,.int (k:Int)]/\rN H pc c/\c.ds[k]? = some d/\H pk=some (.tup kv)/\bV H kv ks/\d.way.gl<ks.length/\(jG d.way ks).length<=100/\∀(p:Addr)(H':Hp),aG H H'->H p=none->H' p=some (.lst (aC (jG d.way ks)))->Q (.ref p) H'
noncomputable def DG(C:Addr):Sp:=fun vs H Q _ => ∃(pc ps p:Addr)(c:dC)(k:Nat)(ik:Int)(s:S4)(fp:List Addr)(d:Dx),vs=[.ref pc,.ref ps,.int ik,.ref p]/\ik=(k:Int)/\rN H pc c/\rM c/\fM H ps s/\jX c s/\c.ds[k]? = some d/\Lh c d s.os s.ks/\LL C H p fp c.lb s.l ∧
 ∀(t ps' pr:Addr)(rv:List V)(s':S4)(es:List En)(fp':List Addr)(H':Hp),Ab c k s es s'->LL C H' p fp' c.lb s'.l->az H H' fp fp'->H' t=some (.tup [.ref ps',.ref pr])->fM H' ps' s'->jX c s'->H' pr=some (.lst rv)->H pr=none->pr∉fp'->Al (fO H') rv es->es.length<=1000->Q (.ref t) H'
theorem ql(rs:List Rm)(os:List Nat):∀(ls:List Nat)(ks:List (List Nat)),(bH rs os ls ks).length=ks.length
 | [],ks=>rfl
 | r::ls,ks=>by
  show (bH rs os ls (if cV rs r=("" : Str) then ks else ks.set r (jt rs os r))).length=_;rw[ql rs os ls]
  split
  ·rfl
  ·rw[List.length_set]
theorem uq{ds:List Int}{f:Nat->Bool}{a b u:Nat}(h:Tr.hall ds f a b=some u):u<a:=Tr.Ob (List.mem_of_find?_eq_some h)
theorem QM(ds:List Int)(un:Option Nat)(os:List Nat):(JM.jT ds un os).length<=os.length:=by
 unfold JM.jT;rw[List.length_reverse];exact rT _ _
theorem mJ:aH ["chart","kept","door","way","goal"] ["chart","kept","door"] (aB qP):=eO
theorem Ec{f:Addr}{fd:FuncData}(F:cY K "goals_of" "goals_of" qP f fd)(aR:mg "len" = none)(ie:mg "list" = none):aM P w K mg base aW 1 f fd ["chart","kept","door"] Jl:=by
 refine F.ok mJ (fun vs H Q E h=>?_) (fun cdv A outer s H vs Q E hr h=>?_)
 ·refine aJ fun G_ g_=>?_;obtain⟨pc,pk,kv,ks,c,k,d,rfl,_⟩:=h;apply g_;clear g_ G_;rfl
 refine aJ fun G_ g_=>?_;obtain⟨pc,pk,kv,ks,c,k,d,rfl,⟨pb,t,pd,x4,bv,dv,h1,h2,h3,h4,h5,h6,h7⟩,hd,Wc,hks,hgl,hl,q⟩:=h;apply g_;clear g_ G_
 refine⟨_,(zE (zK (i:=3) mJ.nd rfl (Or.inl rfl) (yB zH (yB zH (yB zH (pv 0) zB (fun _ _=>rfl)) (pv 2) (fun _ _=>rfl)) zB (fun _ _=>rfl)))
  (zE (zK (i:=4) mJ.nd rfl (Or.inl rfl) (yB zH (yB zH (yB zH (pv 0) zB (fun _ _=>rfl)) (pv 2) (fun _ _=>rfl)) zB (fun _ _=>rfl)))
  (zE (yD (zL yG (pv 3) zP (zR _))
  (zG (zO (yK zD)))
  zT)
  (zE (yD (PW.pt (pw_and (zL yG (pv 3) zP (zR _)) (yP (zL jD (zS zN rfl aR cA (zA (yB zH (pv 1) (pv 4) (fun _ _=>rfl)) zD)) zB (zR _)))))
  (zG (zO (yA fL rfl ie PyProof.Rows.boot_list (zA (yB zH (pv 1) (pv 4) (fun _ _=>rfl)) zD))))
  zT)
  (zG (zO (yK (zA (pv 4) zD)))))))),?_⟩
 refine aJ fun G_ g_=>?_;obtain⟨v,hv,a,gv,Vk,rfl,g1,g2,g3⟩:=h7.get hd;apply g_;clear g_ G_;have hat:=yQ hv;refine⟨_,rfl,aF (aK.of h1) rfl ⟨_,rfl,aF (aK.of h6) hat (aF (aK.of g1) rfl ?_)⟩⟩;refine⟨_,rfl,aF (aK.of h1) rfl ⟨_,rfl,aF (aK.of h6) hat (aF (aK.of g1) rfl ?_)⟩⟩;clear g1 hd;refine aJ fun G_ g_=>?_;obtain⟨rm,ev,gg,dd,wy⟩:=d;apply g_;clear g_ G_
 cases wy with
 | stay=>exact⟨_,rfl,rfl,_,rfl,O5 (by show decide (V.str ("stay" : Str)=V.str "stay")=true;decide +kernel) ⟨Nat.zero_le _,fun p hp=>q p _ (zF hp _) hp zC⟩⟩
 | to g=>
  refine⟨_,rfl,rfl,_,rfl,qp (by show decide (V.str ("to" : Str)=V.str "stay")=false;decide +kernel) ?_⟩;refine⟨_,rfl,rfl,_,rfl,qp (by show decide (V.str ("to" : Str)=V.str "back")=false;decide +kernel) ?_⟩;exact qp rfl ⟨_,rfl,zI (by show 1<=1000;decide),fun p hp=>q p _ (zF hp _) hp zC⟩
 | back g=>
  have hg:g<ks.length:=hgl;refine aJ fun G_ g_=>?_;obtain⟨v2,hv2,ak,rfl,hak⟩:=hks.get (gq hg);apply g_;clear g_ G_;have qC5:=yQ hv2
  have eg:ks.getD g []=ks[g]:=by rw[lX,gq hg];rfl
  have q':∀(p:Addr)(H':Hp),aG H H'->H p=none->H' p=some (.lst (aC (if ks[g]=[] then [g] else ks[g])))->Q (.ref p) H':=fun p H' s1 hp h=>q p H' s1 hp (by
   show H' p=some (.lst (aC (if ks.getD g []=[] then [g] else ks.getD g [])));rw[eg]
   exact h)
  refine⟨_,rfl,rfl,_,rfl,qp (by show decide (V.str ("back" : Str)=V.str "stay")=false;decide +kernel) ?_⟩;refine⟨_,rfl,rfl,_,rfl,O5 (by show decide (V.str ("back" : Str)=V.str "back")=true;decide +kernel) ?_⟩;refine⟨_,rfl,_,rfl,pk,kv,_,_,rfl,rfl,aK.of Wc,qC5,iZ rfl (.inr (aK.of hak)) (aq ⟨_,rfl,fH (fun z=>?_) (fun z=>?_)⟩)⟩
  ·have z':(0:Int)<((aC ks[g]).length:Int):=of_decide_eq_true z;rw[zU]at z'
   have hne:ks[g]≠[]:=fun e=>by
    rw[e]at z';exact absurd z' (by decide)
   rw[if_neg hne]at q';exact⟨_,rfl,_,rfl,pk,kv,_,_,rfl,rfl,aK.of Wc,qC5,iZ rfl (.inr (aK.of hak)) (fun p hp=>q' p _ (zF hp _) hp zC)⟩
  ·have z':¬ (0:Int)<((aC ks[g]).length:Int):=of_decide_eq_false z;rw[zU]at z';have he:ks[g]=[]:=List.length_eq_zero_iff.mp (by lia);rw[if_pos he]at q';exact⟨_,rfl,zI (by show 1<=1000;decide),fun p hp=>q' p _ (zF hp _) hp zC⟩
noncomputable abbrev Bb:Scope:=⟨.function,[("chart",.local),("stand",.local),("door",.local),("letters",.local),("rooms",.local),("parts",.local),("opening",.local),("kept",.local),("left",.cell),("entered",.local),("hall",.local),("through",.local),("steps",.local),("told",.local),("staying",.local),("hall_over",.globalImplicit),("goings_out",.globalImplicit),("keeping",.globalImplicit),("goings_in",.globalImplicit),("goals_of",.globalImplicit),("steps_out",.globalImplicit),("steps_in",.globalImplicit),("stepped",.globalImplicit),("sizes_of",.globalImplicit),("tuple",.globalImplicit),("sorted",.globalImplicit)],false,false,(aB mL).more⟩
theorem M5:aB mL=Bb:=by rfl
theorem bJ:aH ["chart","stand","door","letters","rooms","parts","opening","kept","left","entered","hall","through","steps","told","staying"] ["chart","stand","door","letters"] Bb:=eO
theorem M9{n:Nat}{f g1 g2 g3 g4 g5 g6 g7 g8 g9:Addr}{fd d1 d2 d3 d4 d5 d6 d7 d8 d9:FuncData}(F:cY K "passed" "passed" mL f fd)
  (GJ:Dp P w K mg base aW n g1 d1 ["rooms","one","other"] JN.PB "hall_over")
  (lO:Dp P w K mg base aW n g2 d2 ["rooms","under","opening"] JM.Ot "goings_out")
  (Nu:Dp P w K mg base aW n g3 d3 ["rooms","opening","left","kept"] xu "keeping")
  (nJ:Dp P w K mg base aW n g4 d4 ["rooms","under","goals"] XD "goings_in")
  (JX:Dp P w K mg base aW n g5 d5 ["chart","kept","door"] Jl "goals_of")
  (Fx:Dp P w K mg base aW n g6 d6 ["rooms","left"] (jh En.out false) "steps_out")
  (pR:Dp P w K mg base aW n g7 d7 ["rooms","entered"] (jh En.inn true) "steps_in")
  (tV:Dp P w K mg base aW n g8 d8 ["steps","boxes","sizes","letters"] (sE C) "stepped")
  (pU:Dp P w K mg base aW n g9 d9 ["chart"] Aq "sizes_of")
  (aU:mg "tuple" = none) (dR:mg "sorted" = none):aM P w K mg base aW (n+1) f fd ["chart","stand","door","letters"] (DG C):=by
 refine okS Bb M5 F bJ (fun vs H Q E h=>?_) (fun cdv A outer s H vs Q E hr h=>?_)
 ·refine aJ fun G_ g_=>?_;obtain⟨pc,ps,p,c,k,ik,s,fp,d,rfl,_⟩:=h;apply g_;clear g_ G_;rfl
 refine aJ fun G_ g_=>?_;obtain⟨pc,ps,p,c,k,ik,st,fp,d,rfl,rfl,hC,ok,hS,so,hd,mp,hL,q⟩:=h;apply g_;clear g_ G_
 refine⟨_,(zE (zK (i:=4) bJ.nd rfl (Or.inl rfl) (yB zH (pv 0) zB (fun _ _=>rfl)))
  (zE (zK (i:=5) bJ.nd rfl (Or.inl rfl) (yB zH (yB zH (pv 0) zB (fun _ _=>rfl)) (pv 2) (fun _ _=>rfl)))
  (zE (zK (i:=6) bJ.nd rfl (Or.inl rfl) (yB zH (pv 1) zB (fun _ _=>rfl)))
  (zE (zK (i:=7) bJ.nd rfl (Or.inl rfl) (yB zH (pv 1) zB (fun _ _=>rfl)))
  (zE (zK (i:=8) bJ.nd rfl (Or.inr rfl) (yK zD))
  (zE (zK (i:=9) bJ.nd rfl (Or.inl rfl) (yK zD))
  (zZ (yD (zL ym (yB zH (pv 5) zB (fun _ _=>rfl)) zP (zR _))
  (zE (zK (i:=10) bJ.nd rfl (Or.inl rfl) (pC GJ hr (zA (pv 4) (zA (yB zH (pv 5) zB (fun _ _=>rfl)) (zA (yB zH (pv 5) zB (fun _ _=>rfl)) zD)))))
  (zE (zK (i:=8) bJ.nd rfl (Or.inr rfl) (pC lO hr (zA (pv 4) (zA (pv 10) (zA (pv 6) zD)))))
  (zE (zK (i:=7) bJ.nd rfl (Or.inl rfl) (pC Nu hr (zA (pv 4) (zA (pv 6) (zA (pv 8) (zA (pv 7) zD))))))
  (zG (zK (i:=9) bJ.nd rfl (Or.inl rfl) (pC nJ hr (zA (pv 4) (zA (pv 10) (zA (pC JX hr (zA (pv 0) (zA (pv 7) (zA (pv 2) zD)))) zD)))))))))
  zT)
  (zE (zK (i:=11) bJ.nd rfl (Or.inl rfl) (yK (zA (zW (zA (zW (zA zP (zA (pv 2) zD))) (zA (yB zH (pv 5) zB (fun _ _=>rfl)) zD))) zD)))
  (zE (zK (i:=12) bJ.nd rfl (Or.inl rfl) (yC Bc (yC Bc (yC Bc (yK (zA (zW (zA (zW (zA zP (zA (pv 2) zD))) (zA (zW zD) zD))) zD)) (pC Fx hr (zA (pv 4) (zA (pv 8) zD)))) (pv 11)) (pC pR hr (zA (pv 4) (zA (pv 9) zD)))))
  (zE (zK (i:=13) bJ.nd rfl (Or.inl rfl) (pC tV hr (zA (pv 12) (zA (yB zH (pv 1) zB (fun _ _=>rfl)) (zA (pC pU hr (zA (pv 0) zD)) (zA (pv 3) zD))))))
  (zE (qX (i:=14) (aX:=[(8,"left")]) rfl bJ.nd rfl (Or.inl rfl) (show bD Bb ["chart","stand","door","letters","rooms","parts","opening","kept","left","entered","hall","through","steps","told","staying"] _ _ _ from xN) (pG (pv 6)) (fun _ _ _ _ _ _=>fG (zL (r:=rIn K true) lD (pv 0) (pv 1) rfl)) (fun _ _ _ _ _ _=>(pv 0)))
  (zG (zO (zW (zA (zW (zA (yA zX rfl aU lV (zA (zS n6 rfl dR PyProof.Rows.boot_sorted (zA (yC Bc (pv 14) (pv 9)) zD)) zD)) (zA (yB zH (pv 13) zB (fun _ _=>rfl)) (zA (pv 7) zD)))) (zA (yB zH (pv 13) zB (fun _ _=>rfl)) zD)))))))))))))))),?_⟩
 refine aJ fun G_ g_=>?_;obtain⟨pb,t,pd,x4,bv,dv,h1,h2,h3,h4,h5,h6,h7⟩:=id hC;obtain⟨po,Up,pk,kv,e1,e2,e3,e4,e5⟩:=id hS;obtain⟨v,hv,a,gv,Vk,rfl,y1,y2,y3⟩:=h7.get hd;apply g_;clear g_ G_;have hat:=yQ hv;have od:=ok.door d (Gf hd);refine⟨_,rfl,aF (aK.of h1) rfl ?_⟩;refine⟨_,rfl,aF (aK.of h1) rfl ⟨_,rfl,aF (aK.of h6) hat ?_⟩⟩;refine⟨_,rfl,aF (aK.of e1) rfl ?_⟩;refine⟨_,rfl,aF (aK.of e1) rfl ?_⟩;refine⟨Nat.zero_le _,fun pl0 Ym=>⟨Nat.zero_le _,fun pe0 Yn=>?_⟩⟩;have u1:=(zF Ym (.lst [])).trans (zF Yn (.lst []));have hl0:(upd (upd H pl0 (.lst [])) pe0 (.lst [])) pl0=some (.lst (aC [])):=zF Yn _ _ _ zC;have he0:(upd (upd H pl0 (.lst [])) pe0 (.lst [])) pe0=some (.lst (aC [])):=zC;generalize upd (upd H pl0 (.lst [])) pe0 (.lst [])=H1 at u1 hl0 he0 ⊢;refine⟨fun σ' H'=>∃(O4 pf pe:Addr)(Ez:List V)(ms:List Nat)(Ef:Option V),H pf=none/\H pe=none/\aG H H'/\H' pf=some (.lst (aC (bQ c d st.os)))/\H' pe=some (.lst (aC ms))/\tR c d (mZ c d st.os st.ks) ms/\H' O4=some (.tup Ez)/\bV H' Ez (mZ c d st.os st.ks)/\σ'=[some (.ref pc),some (.ref ps),some (.int (k:Int)),some (.ref p),some (.ref t),some (.ref a),some (.ref po),some (.ref O4),some (.ref pf),some (.ref pe),Ef,none,none,none,none],?_,?_⟩
 ·refine⟨_,rfl,aF (aK.of (u1 _ _ y1)) rfl ⟨rfl,_,rfl,fH (fun cw=>?_) (fun cw=>?_)⟩⟩
  rotate_left
  ·have hs:tD d.way=true:=by
    cases hw:d.way with
    | stay=>rfl
    | to g=>rw[hw]at cw;exact absurd cw (by show ¬ (!decide (V.str ("to" : Str)=V.str "stay"))=false;decide +kernel)
    | back g=>rw[hw]at cw;exact absurd cw (by show ¬ (!decide (V.str ("back" : Str)=V.str "stay"))=false;decide +kernel)
   have el:bQ c d st.os=[]:=if_pos hs;have ek:mZ c d st.os st.ks=st.ks:=if_pos hs;rw[el,ek];exact⟨pk,pl0,pe0,kv,[],_,Ym,(zF Ym _).free Yn,u1,hl0,he0,(show tR c d st.ks [] from (if_pos hs).mpr rfl),u1 _ _ e4,e5.mono (aA.of u1),rfl⟩
  have hs:tD d.way=false:=by
   cases hw:d.way with
   | stay=>rw[hw]at cw;exact absurd cw (by show ¬ (!decide (V.str ("stay" : Str)=V.str "stay"))=true;decide +kernel)
   | to g=>rfl
   | back g=>rfl
  have hs':¬ tD d.way=true:=by rw[hs];decide
  have el:bQ c d st.os=JM.jT (aD c.rs) (pL c d) st.os:=if_neg hs';have ek:mZ c d st.os st.ks=bH c.rs st.os (bQ c d st.os) st.ks:=if_neg hs'
  have egv:d.way.gv = .int ((d.way.gl:Nat):Int):=by
   cases hw:d.way with
   | stay=>rw[hw]at hs;cases hs
   | to g=>rfl
   | back g=>rfl
  rw[egv]at y1;refine⟨_,rfl,_,rfl,aF (aK.of (u1 _ _ y1)) rfl ⟨_,rfl,aF (aK.of (u1 _ _ y1)) rfl ⟨t,c.rs,d.room,d.way.gl,rfl,h4.mono (aA.of u1),ok.good,ok.r40,od.1,od.2.1,fun H2 s2=>?_⟩⟩⟩;have s12:=u1.trans s2
  have uq:∀ u,pL c d=some u->u<c.rs.length:=fun u hu=>by
   have:=uq hu;have:=od.1;lia
  refine⟨_,rfl,_,rfl,_,rfl,t,po,c.rs,pL c d,st.os,rfl,h4.mono (aA.of s12),ok.good,ok.r40,uq,s12 _ _ e2,so.lt,so.VH,so.inc,fun pf H3 s3 npf hpf=>?_⟩;rw[<-el]at hpf;have uf:=s12.trans s3
  have llt:∀ o∈bQ c d st.os,o<c.rs.length:=fun o ho=>by
   rw[el]at ho;have:=List.mem_reverse.mp ho;exact so.lt o (lW.mp this).1
  refine⟨_,rfl,_,rfl,_,rfl,_,rfl,t,po,pf,pk,c.rs,st.os,bQ c d st.os,kv,st.ks,rfl,h4.mono (aA.of uf),ok.good,ok.r40,uf _ _ e2,so.lt,so.VH,so.inc,hpf,llt,uf _ _ e4,e5.mono (aA.of uf),so.ks,fun O4 Ez H4 s4 qBZ qC4=>?_⟩;have Di:=uf.trans s4;refine⟨_,rfl,_,rfl,_,rfl,_,rfl,_,rfl,pc,O4,Ez,mZ c d st.os st.ks,c,k,d,rfl,hC.mono (aA.of Di),hd,qBZ,(by rw[ek];exact qC4),(by rw[ek,ql,so.ks];exact od.2.1),mp.2.1,fun pg H5 s5 npg hpg=>?_⟩;have xR:=Di.trans s5;refine⟨t,pg,c.rs,pL c d,jG d.way (mZ c d st.os st.ks),rfl,h4.mono (aA.of xR),ok.good,ok.r40,uq,⟨hpg,mp.1,mp.2.1⟩,fun pe ms H6 s6 npe hpe hms=>?_⟩;exact⟨O4,pf,pe,Ez,ms,_,s12.free npf,xR.free npe,xR.trans s6,s6 _ _ (s5 _ _ (s4 _ _ hpf)),hpe,(if_neg hs').mpr hms,s6 _ _ (s5 _ _ qBZ),(by rw[ek];exact qC4.mono (aA.of (s5.trans s6))),rfl⟩
 rintro σ' H2 aP;refine aJ fun G_ g_=>?_;obtain⟨O4,pf,pe,Ez,ms,Ef,npf,npe,s2,h2f,h2e,hms,h2k,qG1,rfl⟩:=aP;obtain⟨nd,l40,mlt⟩:=mp.2.2 ms hms;apply g_;clear g_ G_
 have lm:ms.length<=40:=by
  rw[dW]at l40;lia
 have ll:(bQ c d st.os).length<=40:=by
  unfold bQ
  split
  ·exact Nat.zero_le _
  ·exact Nat.le_trans (QM _ _ _) so.VH
 have llt:∀ o∈bQ c d st.os,o<c.rs.length:=fun o ho=>by
  unfold bQ at ho
  split at ho
  ·cases ho
  have:=List.mem_reverse.mp ho;exact so.lt o (lW.mp this).1
 refine⟨_,rfl,zI (by show 2<=1000;decide),fun p1 hp1=>?_⟩;have v1:=zF hp1 (.tup [V.str ("through" : Str),V.int (k:Int)]);have i1:upd H2 p1 (.tup [V.str ("through" : Str),V.int (k:Int)]) p1=some (.tup (En.thr k).row):=zC;generalize upd H2 p1 (.tup [V.str ("through" : Str),V.int (k:Int)])=H3 at v1 i1 ⊢;refine⟨_,rfl,aF (aK.of (v1 _ _ (s2 _ _ y1))) rfl ⟨zI (by show 2<=1000;decide),fun p2 hp2=>?_⟩⟩;have v2:=zF hp2 (.tup [V.ref p1,Vk]);have i2:upd H3 p2 (.tup [V.ref p1,Vk]) p2=some (.tup [V.ref p1,Vk]):=zC;generalize upd H3 p2 (.tup [V.ref p1,Vk])=H4 at v2 i2 ⊢;refine⟨zI (by show 1<=1000;decide),fun pth qFI=>?_⟩;have v3:=zF qFI (.lst [V.ref p2]);have i3:upd H4 pth (.lst [V.ref p2]) pth=some (.lst [V.ref p2]):=zC;generalize upd H4 pth (.lst [V.ref p2])=H5 at v3 i3 ⊢;have s5:=s2.trans (v1.trans (v2.trans v3));have at5:Al (pP H5) [V.ref p2] [(En.thr k,d.dd)]:=.cons ⟨p2,p1,Vk,rfl,v3 _ _ i2,v3 _ _ (v2 _ _ i1),y3.mono (aA.of s5)⟩ .nil;refine⟨_,rfl,zI (by show 2<=1000;decide),fun q1 hq1=>?_⟩;have w1:=zF hq1 (.tup [V.str ("door" : Str),V.int (k:Int)]);have j1:upd H5 q1 (.tup [V.str ("door" : Str),V.int (k:Int)]) q1=some (.tup (En.door k).row):=zC;generalize upd H5 q1 (.tup [V.str ("door" : Str),V.int (k:Int)])=H6 at w1 j1 ⊢;refine⟨Nat.zero_le _,fun q2 hq2=>?_⟩;have w2:=zF hq2 (.tup []);have j2:upd H6 q2 (.tup []) q2=some (.tup []):=zC;generalize upd H6 q2 (.tup [])=H7 at w2 j2 ⊢;refine⟨zI (by show 2<=1000;decide),fun q3 hq3=>?_⟩;have w3:=zF hq3 (.tup [V.ref q1,V.ref q2]);have j3:upd H7 q3 (.tup [V.ref q1,V.ref q2]) q3=some (.tup [V.ref q1,V.ref q2]):=zC;generalize upd H7 q3 (.tup [V.ref q1,V.ref q2])=H8 at w3 j3 ⊢;refine⟨zI (by show 1<=1000;decide),fun q4 TX=>?_⟩;have w4:=zF TX (.lst [V.ref q3]);have j4:upd H8 q4 (.lst [V.ref q3]) q4=some (.lst [V.ref q3]):=zC;generalize upd H8 q4 (.lst [V.ref q3])=H9 at w4 j4 ⊢;have w59:=w1.trans (w2.trans (w3.trans w4));have s9:=s5.trans w59;have at9:Al (pP H9) [V.ref q3] [(En.door k,([]:List Dd))]:=.cons ⟨q3,q1,V.ref q2,rfl,w4 _ _ j3,w4 _ _ (w3 _ _ (w2 _ _ j1)),q2,[],rfl,w4 _ _ (w3 _ _ j2),.nil⟩ .nil;have f9:aG H2 H9:=v1.trans (v2.trans (v3.trans w59));refine⟨_,rfl,_,rfl,t,pf,c.rs,c.di,c.dO,bQ c d st.os,rfl,h4.mono (aA.of s9),h5.mono (aA.of s9),f9 _ _ h2f,llt,by lia,fun pso Gm SJ Dj npso qFO hAo=>?_⟩
 have lo:Gm.length=(bQ c d st.os).length:=by
  have:=hAo.length;rw[bZ]at this;exact this
 refine⟨q4,pso,_,_,rfl,rfl,Dj _ _ j4,qFO,(by rw[sizeLine_eq,lo];show 1+_<=_;lia),fun c1 hc1=>?_⟩;have z1:=zF hc1 (.lst ([V.ref q3]++Gm));have k1:upd SJ c1 (.lst ([V.ref q3]++Gm)) c1=some (.lst ([V.ref q3]++Gm)):=zC;generalize upd SJ c1 (.lst ([V.ref q3]++Gm))=Wq at z1 k1 ⊢;have f11:aG H5 Wq:=w59.trans (Dj.trans z1);refine⟨_,rfl,c1,pth,_,_,rfl,rfl,k1,f11 _ _ i3,(by rw[sizeLine_eq,dW,lo];show 1+_+1<=_;lia),fun c2 hc2=>?_⟩;have z2:=zF hc2 (.lst ([V.ref q3]++Gm++[V.ref p2]));have k2:upd Wq c2 (.lst ([V.ref q3]++Gm++[V.ref p2])) c2=some (.lst ([V.ref q3]++Gm++[V.ref p2])):=zC;generalize upd Wq c2 (.lst ([V.ref q3]++Gm++[V.ref p2]))=ZD at z2 k2 ⊢;have s12:=s9.trans (Dj.trans (z1.trans z2));have f12:aG H2 ZD:=f9.trans (Dj.trans (z1.trans z2));refine⟨_,rfl,_,rfl,t,pe,c.rs,c.di,c.dO,ms,rfl,h4.mono (aA.of s12),h5.mono (aA.of s12),f12 _ _ h2e,mlt,by lia,fun lY Tt H13 uf Xx Yj ur=>?_⟩
 have li:Tt.length=ms.length:=by
  have:=ur.length;rw[bZ]at this;exact this
 refine⟨c2,lY,_,_,rfl,rfl,uf _ _ k2,Yj,(by rw[sizeLine_eq,dW,dW,lo,li];show 1+_+1+_<=_;lia),fun c3 hc3=>?_⟩;have z3:=zF hc3 (.lst ([V.ref q3]++Gm++[V.ref p2]++Tt));have k3:upd H13 c3 (.lst ([V.ref q3]++Gm++[V.ref p2]++Tt)) c3=some (.lst ([V.ref q3]++Gm++[V.ref p2]++Tt)):=zC;generalize upd H13 c3 (.lst ([V.ref q3]++Gm++[V.ref p2]++Tt))=Wo at z3 k3 ⊢;have Di:=s12.trans (uf.trans z3);have f14:aG H2 Wo:=f12.trans (uf.trans z3)
 have qGH:Al (pP Wo) ([V.ref q3]++Gm++[V.ref p2]++Tt) (eU c k d st.os ms):=by
  have a1:Al (pP Wo) [V.ref q3] [(En.door k,([]:List Dd))]:=at9.mono fun _ _ z=>z.mono (aA.of (Dj.trans (z1.trans (z2.trans (uf.trans z3)))));have a2:Al (pP Wo) Gm ((bQ c d st.os).map fun r=>(En.out r,c.dO r)):=hAo.mono fun _ _ z=>z.mono (aA.of (z1.trans (z2.trans (uf.trans z3))));have a3:Al (pP Wo) [V.ref p2] [(En.thr k,d.dd)]:=at5.mono fun _ _ z=>z.mono (aA.of (f11.trans (z2.trans (uf.trans z3))));have a4:Al (pP Wo) Tt (ms.map fun r=>(En.inn r,c.di r)):=ur.mono fun _ _ z=>z.mono (aA.of z3);exact Al.app (Al.app (Al.app a1 a2) a3) a4
 refine⟨_,rfl,_,rfl,aF (aK.of (Di _ _ e1)) rfl ⟨_,rfl,pc,pb,_,_,_,_,_,_,bv,c.sz,rfl,Di _ _ h1,Di _ _ h2,h3.mono (fun _ _ z=>z.mono (aA.of Di)),(by have:=ok.b6;lia),fun tz H15 xR htz=>?_⟩⟩;have UL:=Di.trans xR;have qC8:=LL.same hL UL
 have nc3:c3∉fp:=fun z=>by
  have e0:=(s12.trans uf).free hc3;exact LL.new hL e0 z
 have lens:(eU c k d st.os ms).length<=110:=by
  unfold eU;rw[dW,dW,dW,bZ,bZ];show 1+_+1+_<=110;lia
 have oks:∀ s∈eU c k d st.os ms,(∀ d∈s.2,d.ok st.bx.length)/\s.2.length<=8:=fun s hs=>by
  rw[so.bx];unfold eU at hs;rcases cX.mp hs with hs | hs
  ·rcases cX.mp hs with hs | hs
   ·rcases cX.mp hs with hs | hs
    ·rw[cB.mp hs];exact⟨(fun d hd=>by cases hd),Nat.zero_le _⟩
    ·refine aJ fun G_ g_=>?_;obtain⟨r,_,rfl⟩:=eQ.mp hs;apply g_;clear g_ G_;exact ok.outs r
   ·rw[cB.mp hs];exact od.2.2
  ·refine aJ fun G_ g_=>?_;obtain⟨r,_,rfl⟩:=eQ.mp hs;apply g_;clear g_ G_;exact ok.ins r
 refine⟨_,rfl,c3,Up,tz,p,_,_,st.bx,c.sz,st.l,fp,c.lb,rfl,xR _ _ k3,nc3,qGH.mono (fun _ _ z=>z.mono (aA.of xR)),UL _ _ e3,htz,qC8,oks,lens,so.bx,(by rw[so.bx];exact ok.b6),ok.pos,so.l,ok.TQ,fun tt tb' pr rv fp' Wn qGA Tv htt htb hpr Hs Xy hes=>?_⟩;have k16:aA H15 Wn:=az.keep Tv qC8;have stA:az H Wn fp fp':=az.trans (az.same fp UL) Tv;have kA:aA H Wn:=az.keep stA hL;have qEQ:Wn pf=some (.lst (aC (bQ c d st.os))):=Tv.rest _ _ (xR _ _ (f14 _ _ h2f)) (LL.new hL npf);have qER:Wn pe=some (.lst (aC ms)):=Tv.rest _ _ (xR _ _ (f14 _ _ h2e)) (LL.new hL npe);have qEP:Wn O4=some (.tup Ez):=k16 _ _ (xR _ _ (f14 _ _ h2k));have qF6:=qG1.mono (aA.trans (aA.of (f14.trans xR)) k16);refine⟨_,rfl,po,rfl,⟨_,aK.of (kA _ _ e2)⟩,?_⟩;refine mq (K:=K) (a:=po) (xs:=aC st.os) (fun i acc H'=>H'=Wn/\acc=aC ((st.os.take i).filter fun o => !inV (.int (o:Int)) (aC (bQ c d st.os)))) ⟨rfl,rfl⟩ (fun i acc H' z=>by rw[z.1];exact aK.of (kA _ _ e2)) ?_ ?_
 ·rintro i x acc H' hx ⟨rfl,rfl⟩;obtain⟨hi,rfl⟩:=yR hx;have hk:=gq hi;generalize st.os[i]=o at hk;refine⟨_,rfl,_,rfl,iZ rfl (.inl (aQ.of qEQ)) ⟨rfl,yt _,_,rfl,fH (fun z=>?_) (fun z=>?_)⟩⟩
  ·refine⟨_,rfl,?_,rfl,?_⟩
   ·rw[zU,sizeLine_eq];have:=rT (fun o:Nat => !inV (.int (o:Int)) (aC (bQ c d st.os))) (st.os.take i);rw[jP]at this;have:=so.VH;lia
   ·have z2:(!inV (.int (o:Int)) (aC (bQ c d st.os)))=true:=z;rw[gJ hk,if_pos z2];unfold aC;rw[jd];rfl
  ·refine⟨rfl,?_⟩;have z2:(!inV (.int (o:Int)) (aC (bQ c d st.os)))=false:=z
   have z':¬ (!inV (.int (o:Int)) (aC (bQ c d st.os)))=true:=fun y=>by
    rw[z2]at y
    cases y
   rw[gJ hk,if_neg z',gQ]
 rintro acc H17 ⟨rfl,qDI⟩ Du qFL
 have ea:(st.os.take (aC st.os).length).filter (fun o:Nat => !inV (.int (o:Int)) (aC (bQ c d st.os)))=cU c d st.os:=by
  rw[zU,xK (bM _)];rfl
 rw[ea]at qDI;subst qDI;have u17:=zF qFL (.lst (aC (cU c d st.os)));have h17:upd H17 Du (.lst (aC (cU c d st.os))) Du=some (.lst (aC (cU c d st.os))):=zC;generalize upd H17 Du (.lst (aC (cU c d st.os)))=H18 at u17 h17 ⊢;rw[dW]at l40;refine⟨_,rfl,_,rfl,Du,pe,_,_,rfl,rfl,h17,u17 _ _ qER,(by rw[zU,zU,sizeLine_eq];lia),fun Uo qC0=>?_⟩;have u18:=zF qC0 (.lst (aC (cU c d st.os)++aC ms))
 have h18:upd H18 Uo (.lst (aC (cU c d st.os)++aC ms)) Uo=some (.lst ((cU c d st.os++ms).map fun j:Nat=>V.int (j:Int))):=by
  rw[zC];unfold aC;rw[jd]
 generalize upd H18 Uo (.lst (aC (cU c d st.os)++aC ms))=H19 at u18 h18 ⊢;refine⟨Uo,(cU c d st.os++ms).map fun j:Nat=>(j:Int),rfl,.inl (aQ.of (by rw[h18,cR])),(by rw[bZ,dW];lia),fun psr rs' qFN perm Ol=>?_⟩;refine aJ fun G_ g_=>?_;obtain⟨os',rfl,rise,hpm⟩:=mD perm Ol nd;apply g_;clear g_ G_;have u19:=zF qFN (.lst ((os'.map fun j:Nat=>(j:Int)).map V.int));have h19:upd H19 psr (.lst ((os'.map fun j:Nat=>(j:Int)).map V.int)) psr=some (.lst ((os'.map fun j:Nat=>(j:Int)).map V.int)):=zC;generalize upd H19 psr (.lst ((os'.map fun j:Nat=>(j:Int)).map V.int))=H20 at u19 h19 ⊢;refine⟨psr,_,rfl,.inl ⟨aQ.of h19,fun Dt Yi=>?_⟩⟩;have u20:=zF Yi (.tup ((os'.map fun j:Nat=>(j:Int)).map V.int))
 have h20:upd H20 Dt (.tup ((os'.map fun j:Nat=>(j:Int)).map V.int)) Dt=some (.tup (aC os')):=by
  rw[zC,<-cR];rfl
 generalize upd H20 Dt (.tup ((os'.map fun j:Nat=>(j:Int)).map V.int))=H21 at u20 h20 ⊢;have r21:aG H17 H21:=u17.trans (u18.trans (u19.trans u20));refine⟨_,rfl,aF (aK.of (r21 _ _ htt)) rfl ⟨_,rfl,zI (by show 3<=1000;decide),fun pss qFM=>?_⟩⟩;have u21:=zF qFM (.tup [V.ref Dt,V.ref tb',V.ref O4]);have h21:upd H21 pss (.tup [V.ref Dt,V.ref tb',V.ref O4]) pss=some (.tup [V.ref Dt,V.ref tb',V.ref O4]):=zC;generalize upd H21 pss (.tup [V.ref Dt,V.ref tb',V.ref O4])=H22 at u21 h21 ⊢;have r22:=r21.trans u21;refine⟨_,rfl,aF (aK.of (r22 _ _ htt)) rfl ⟨zI (by show 2<=1000;decide),fun pot qFP=>?_⟩⟩;have u22:=zF qFP (.tup [V.ref pss,V.ref pr]);have r23:=r22.trans u22
 have ksl:(mZ c d st.os st.ks).length=c.rs.length:=by
  unfold mZ
  split
  ·exact so.ks
  ·rw[ql];exact so.ks
 have les:=vC (sz:=c.sz) (m:=c.lb) (bx:=st.bx) (l:=st.l) fun y hy=>(oks y hy).2;have ko:=hpm.length_eq;rw[dW]at ko;refine q pot pss pr rv ⟨os',(cC c.sz c.lb (eU c k d st.os ms) st.bx st.l).1,mZ c d st.os st.ks,(cC c.sz c.lb (eU c k d st.os ms) st.bx st.l).2.1⟩ (cC c.sz c.lb (eU c k d st.os ms) st.bx st.l).2.2 fp' _ ⟨d,ms,hd,hms,hpm,rise,rfl,rfl⟩ (LL.same qGA r23) (az.trans stA (az.same fp' r23)) zC
  ⟨Dt,tb',O4,Ez,u22 _ _ h21,(u21.trans u22) _ _ h20,r23 _ _ htb,r23 _ _ qEP,qF6.mono (aA.of r23)⟩ ⟨rise,fun o ho=>?_,by show os'.length<=40;lia,by show (cC _ _ _ _ _).1.length=_;rw[vD];exact so.bx,ksl,Ao so.l⟩ (r23 _ _ hpr) (UL.free Hs) Xy (hes.mono fun _ _ z=>z.mono (aA.of r23)) (by lia)
 rcases cX.mp (hpm.mem_iff.mp ho) with z | z
 ·exact so.lt o (lW.mp z).1
 ·exact mlt o z
end
end Ru
namespace Ru
open PySem L2 pQ rG CN S9 JQ jY
open GP (Al Dg Vz my pK gU dD inter)
noncomputable def Dx.dg(d:Dx):Dg:=⟨(d.room:Int),d.ev,d.g⟩
noncomputable def Lb(c:dC)(s:S4)(ev:Int):List Nat:=my (pK c.od) (aD c.rs) s.os s.bx (c.ds.map Dx.dg) ev
theorem RL(op bx:List Int)(room ev:Int):∀(ds:List Dg)(b k:Nat),GP.fst op bx room ev ds b=some k->k<b+ds.length
 | [],b,k,h=>by cases h
 | d::ds,b,k,h=>by
  have h:(if GP.hit op bx room ev d=true then some b else GP.fst op bx room ev ds (b+1))=some k:=h;rw[dz]
  split at h
  ·have:=jO h;lia
  ·have:=RL op bx room ev ds (b+1) k h;lia
theorem Z1{c:dC}{s:S4}{ev:Int}{k:Nat}(h:k∈Lb c s ev):k<c.ds.length:=by
 unfold Lb my at h;obtain⟨r,hr,rfl⟩:=eQ.mp h;have h1:=(lW.mp (lW.mp hr).1).2;obtain⟨k,hk⟩:=Option.isSome_iff_exists.mp h1;rw[hk];show k<_;unfold dD at hk
 split at hk
 ·have:=RL _ _ _ _ _ _ _ hk;rw[bZ]at this;lia
 ·cases hk
theorem Vo(c:dC)(s:S4)(ev:Int):(Lb c s ev).length<=s.os.length:=by
 unfold Lb my gU;rw[bZ];exact Nat.le_trans (rT _ _) (rT _ _)
structure JOk(c:dC)(J:List Nat->List (List Nat)->Prop):Prop where
 may:∀ os ks,J os ks->∀ d∈c.ds,Lh c d os ks
 pass:∀(k:Nat)(s:S4)(es:List En)(s':S4),J s.os s.ks->Ab c k s es s'->J s'.os s'.ks
inductive iy(c:dC)(s:S4):List Nat->List Nat->List En->S4->Prop where
 | nil:iy c s [] [] [] s
 | skip {ks lf:List Nat} {es:List En} {s1:S4} {k:Nat} {d:Dx}:iy c s ks lf es s1->c.ds[k]? = some d->inV (.int (d.room:Int)) (aC lf)=true->iy c s (ks++[k]) lf es s1
 | go {ks lf:List Nat} {es e1:List En} {s1 s2:S4} {k:Nat} {d:Dx}:iy c s ks lf es s1->c.ds[k]? = some d->inV (.int (d.room:Int)) (aC lf)=false->Ab c k s1 e1 s2->iy c s (ks++[k]) (lf++outs e1) (es++e1) s2
noncomputable def zz(c:dC)(ev:Int)(s:S4)(es:List En)(s':S4):Prop:=∃(lf:List Nat)(e2:List En),iy c s (Lb c s ev) lf e2 s'/\es = .take ev::e2
structure All(c:dC)(J:List Nat->List (List Nat)->Prop)(n:Nat):Prop where
 ok:rM c
 j:JOk c J
 g:∀ d∈c.ds,d.g.ok c.sz.length/\d.g.ht<=n
noncomputable def Gq(C:Addr)(n:Nat):Sp:=fun vs H Q _ => ∃(pc ps p:Addr)(c:dC)(ev:Int)(s:S4)(fp:List Addr)(J:List Nat->List (List Nat)->Prop),vs=[.ref pc,.ref ps,.int ev,.ref p]/\rN H pc c/\All c J n/\fM H ps s/\jX c s/\J s.os s.ks/\LL C H p fp c.lb s.l ∧
 ∀(t ps' pr:Addr)(rv:List V)(s':S4)(es:List En)(fp':List Addr)(H':Hp),zz c ev s es s'->J s'.os s'.ks->LL C H' p fp' c.lb s'.l->az H H' fp fp'->H' t=some (.tup [.ref ps',.ref pr])->fM H' ps' s'->jX c s'->H' pr=some (.lst rv)->H pr=none->pr∉fp'->Al (fO H') rv es->es.length<=40001->Q (.ref t) H'
theorem dgs{H:Hp}{dv:List V}{ds:List Dx}(x:Al (xF H) dv ds):Al (Vz H) dv (ds.map Dx.dg):=by
 induction x with
 | nil=>exact .nil
 | cons h _ ih=>
  obtain⟨a,gv,Vk,h1,h2,h3,h4⟩:=h;exact .cons ⟨a,gv,_,_,_,h1,h2,h3⟩ ih
theorem Ur(es:List En):(outs es).length<=es.length:=List.length_filterMap_le _ _
section
variable{P:Program}{w:World}{K:bO}{mg:Str->Option Value}{base:Heap}{C:Addr}
theorem kY:aH ["chart","stand","event","letters","now","record","left","door","told"] ["chart","stand","event","letters"] (aB BK):=eO
theorem Uv{n m:Nat}{f g1 g2 g3:Addr}{fd d1 d2 d3:FuncData}(F:cY K "turn" "turn" BK f fd)
  (Sw:Dp P w K mg base aW m g1 d1 ["chart","stand","event"] (GP.DX n) "chosen")
  (Su:Dp P w K mg base aW m g2 d2 ["chart","stand","door","letters"] (DG C) "passed")
  (CW:Dp P w K mg base aW m g3 d3 ["record"] Ox "rooms_left") :
  aM P w K mg base aW (m+1) f fd ["chart","stand","event","letters"] (Gq C n):=by
 refine F.ok kY (fun vs H Q E h=>?_) (fun cdv A outer s H vs Q E hr h=>?_)
 ·refine aJ fun G_ g_=>?_;obtain⟨pc,ps,p,c,ev,s,fp,J,rfl,_⟩:=h;apply g_;clear g_ G_;rfl
 refine aJ fun G_ g_=>?_;obtain⟨pc,ps,p,c,ev,st,fp,J,rfl,hC,al,hS,so,js,hL,q⟩:=h;apply g_;clear g_ G_
 refine⟨_,(zE (zK (i:=4) kY.nd rfl (Or.inl rfl) (pv 1))
  (zE (zK (i:=5) kY.nd rfl (Or.inl rfl) (yK (zA (zW (zA zP (zA (pv 2) zD))) zD)))
  (zE (zK (i:=6) kY.nd rfl (Or.inl rfl) (yK zD))
  (zZ (bU PassesOwn.never rfl (yM (pC Sw hr (zA (pv 0) (zA (pv 1) (zA (pv 2) zD))))) (yJ (i:=7) kY.nd rfl (Or.inl rfl))
  (zG (yD (zL lD (yB zH (yB zH (yB zH (pv 0) zB (fun _ _=>rfl)) (pv 7) (fun _ _=>rfl)) zB (fun _ _=>rfl)) (pv 6) rfl)
  (zE (zK (i:=8) kY.nd rfl (Or.inl rfl) (pC Su hr (zA (pv 0) (zA (pv 4) (zA (pv 7) (zA (pv 3) zD))))))
  (zE (zK (i:=4) kY.nd rfl (Or.inl rfl) (yB zH (pv 8) zB (fun _ _=>rfl)))
  (zE (yI (dJ j7 PySem.F.slot_list_extend PySem.F.type_list_extend iK (pv 5) (zA (yB zH (pv 8) zB (fun _ _=>rfl)) zD)))
  (zG (yI (dJ j7 PySem.F.slot_list_extend PySem.F.type_list_extend iK (pv 6) (zA (pC CW hr (zA (yB zH (pv 8) zB (fun _ _=>rfl)) zD)) zD)))))))
  zT)))
  (zG (zO (zW (zA (pv 4) (zA (pv 5) zD))))))))),?_⟩
 refine⟨_,rfl,_,rfl,zI (by show 2<=1000;decide),fun p1 hp1=>⟨zI (by show 1<=1000;decide),fun pr hpr=>?_⟩⟩;have u1:=zF hp1 (.tup [V.str ("take" : Str),V.int ev]);have i1:upd H p1 (.tup [V.str ("take" : Str),V.int ev]) p1=some (.tup (En.take ev).row):=zC;generalize upd H p1 (.tup [V.str ("take" : Str),V.int ev])=H1 at u1 i1 hpr ⊢;have Hs:H pr=none:=u1.free hpr;have u2:=zF hpr (.lst [V.ref p1]);have i2:upd H1 pr (.lst [V.ref p1]) pr=some (.lst [V.ref p1]):=zC;generalize upd H1 pr (.lst [V.ref p1])=H2 at u2 i2 ⊢;refine⟨Nat.zero_le _,fun pl hpl=>?_⟩;have npl:H pl=none:=(u1.trans u2).free hpl;have qB6:pr≠pl:=zM i2 hpl;have u3:=zF hpl (.lst []);have i3:upd H2 pl (.lst []) pl=some (.lst (aC [])):=zC;generalize upd H2 pl (.lst [])=H3 at u3 i3 ⊢;have s3:=u1.trans (u2.trans u3);refine aJ fun G_ g_=>?_;obtain⟨pb,t,pd,x4,bv,dv,h1,h2,h3,h4,h5,h6,h7⟩:=id hC;obtain⟨po,Up,pk,kv,e1,e2,e3,e4,e5⟩:=id hS;apply g_;clear g_ G_;refine⟨fun σ' Hi => ∃(lY:Addr)(cL:List Addr)(rv:List V)(lf:List Nat)(es:List En)(si:S4)(o7 o8:Option V),σ'=[some (.ref pc),some (.ref ps),some (.int ev),some (.ref p),some (.ref lY),some (.ref pr),some (.ref pl),o7,o8]/\az H Hi fp cL/\LL C Hi p cL c.lb si.l/\fM Hi lY si/\jX c si/\J si.os si.ks/\iy c st (Lb c st ev) lf es si/\Hi pr=some (.lst rv)/\pr∉cL/\Al (fO Hi) rv (.take ev::es)/\es.length<=40000,?_,?_⟩
 ·refine⟨_,rfl,_,rfl,_,rfl,pc,ps,t,pd,po,Up,c.od,st.os,st.bx,c.rs,c.ds.map Dx.dg,dv,_,_,_,_,_,ev,rfl,s3 _ _ h1,h4.mono (aA.of s3),al.ok.good,al.ok.r40,s3 _ _ h6,dgs (h7.mono fun _ _ z=>z.mono (aA.of s3)),s3 _ _ e1,s3 _ _ e2,so.lt,so.inc,s3 _ _ e3,fun d hd=>?_,(by rw[bZ];exact al.ok.d63),fun pq H4 s4 TJ hpq=>?_⟩
  ·refine aJ fun G_ g_=>?_;obtain⟨x,hx,rfl⟩:=eQ.mp hd;apply g_;clear g_ G_;have:=al.g x hx;rw[so.bx];exact this
  have GX:=s3.trans s4;have qEW:pq∉fp:=LL.new hL (s3.free TJ);have lch:=Vo c st ev;have VH:=so.VH;refine⟨pq,rfl,⟨_,aQ.of hpq⟩,?_⟩;refine fK (K:=K) (a:=pq) (xs:=aC (Lb c st ev)) (fun i σ' Hi => ∃(lY:Addr)(cL:List Addr)(rv:List V)(lf:List Nat)(es:List En)(si:S4)(o7 o8:Option V),σ'=[some (.ref pc),some (.ref ps),some (.int ev),some (.ref p),some (.ref lY),some (.ref pr),some (.ref pl),o7,o8]/\az H Hi fp cL/\Hi pq=some (.lst (aC (Lb c st ev)))/\pq∉cL/\LL C Hi p cL c.lb si.l/\fM Hi lY si/\jX c si/\J si.os si.ks/\iy c st ((Lb c st ev).take i) lf es si/\Hi pr=some (.lst rv)/\pr∉cL/\Al (fO Hi) rv (.take ev::es)/\es.length<=1000*i/\Hi pl=some (.lst (aC lf))/\pl∉cL/\lf.length<=1000*i)
   ⟨ps,fp,_,[],[],st,_,_,rfl,az.same fp GX,hpq,qEW,LL.same hL GX,hS.mono (aA.of GX),so,js,.nil,s4 _ _ (u3 _ _ i2),LL.new hL Hs,.cons ⟨p1,rfl,s4 _ _ (u3 _ _ (u2 _ _ i1))⟩ .nil,bM _,s4 _ _ i3,LL.new hL npl,bM _⟩ (fun i σ' Hi _ ⟨_,_,_,_,_,_,_,_,_,_,z,_⟩=>aQ.of z) ?_ ?_
  ·rintro i x σ' Hi hx aP;refine aJ fun G_ g_=>?_;obtain⟨lY,cL,rv,lf,es,si,o7,o8,rfl,T7,hqi,nqi,hLi,hSi,Cm,ji,DR,Ga,Ma,ur,lei,hli,nli,llf⟩:=aP;obtain⟨hi,rfl⟩:=yR hx;apply g_;clear g_ G_;have hk:=gq hi;have hkl:=Z1 (je hi)
   have Cr:(Lb c st ev).take (i+1)=(Lb c st ev).take i++[(Lb c st ev)[i]]:=by
    rw[j8,hk];rfl
   generalize (Lb c st ev)[i]=k at Cr hkl;have hd:=gq hkl;have hdm:=je hkl;generalize c.ds[k]=d at hd hdm;have kt:=az.keep T7 hL;refine aJ fun G_ g_=>?_;obtain⟨v,hv,a,gv,Vk,rfl,y1,y2,y3⟩:=h7.get hd;apply g_;clear g_ G_;refine⟨_,rfl,aF (aK.of (kt _ _ h1)) rfl ⟨_,rfl,aF (aK.of (kt _ _ h6)) (yQ hv) (aF (aK.of (kt _ _ y1)) rfl ⟨_,rfl,iZ rfl (.inl (aQ.of hli)) ⟨rfl,yt _,_,rfl,fH (fun z=>?_) (fun z=>?_)⟩⟩)⟩⟩
   ·have z2:inV (.int (d.room:Int)) (aC lf)=false:=by
     have:(!inV (.int (d.room:Int)) (aC lf))=true:=z
     simpa using this
    refine⟨_,rfl,_,rfl,_,rfl,_,rfl,pc,lY,p,c,k,_,si,cL,d,rfl,rfl,hC.mono kt,al.ok,hSi,Cm,hd,al.j.may _ _ ji d hdm,hLi,fun tt ps2 O3 uK s2 es2 wQ H5 PR hL5 rQ htt hS5 so5 qBX Hq Xy Wf le2=>?_⟩;have k5:=az.keep rQ hLi;have hr5:=az.apart rQ Ga Ma;have hl5:=az.apart rQ hli nli;have hq5:=az.apart rQ hqi nqi;have qEH:=az.trans T7 rQ
    have qEZ:O3≠pr:=fun z=>by rw[z,Ga]at Hq;cases Hq
    have nell:O3≠pl:=fun z=>by rw[z,hli]at Hq;cases Hq
    have qF0:pq≠pr:=fun z=>by
     have a1:=GX pr;rw[<-z]at Hs;have:=s3.free TJ
     exact absurd (s4 _ _ (u3 _ _ i2)) (by
      rw[<-z];intro y;have n3:H3 pq=none:=TJ;rw[z,u3 _ _ i2]at n3
      cases n3)
    have qF1:pq≠pl:=fun z=>by
     have n3:H3 pq=none:=TJ;rw[z,i3]at n3
     cases n3
    have lA:=ur.length;have lA2:=Wf.length;rw[dz]at lA;refine⟨_,rfl,aF (aK.of htt) rfl ?_⟩;refine⟨_,rfl,.inl ⟨rfl,_,aQ.of hr5.1⟩,_,rfl,aF (aK.of htt) rfl ⟨pr,O3,_,_,rfl,rfl,hr5.1,qBX,(by rw[sizeLine_eq];lia),?_⟩⟩;have k6:=aA.lst hr5.1 (.lst (rv++uK));have GR:az H (upd H5 pr (.lst (rv++uK))) fp wQ:=az.upd qEH Hs _;have hL6:=LL.upd hL5 hr5.2 (.lst (rv++uK));have r6:upd H5 pr (.lst (rv++uK)) pr=some (.lst (rv++uK)):=zC
    have r6b:upd H5 pr (.lst (rv++uK)) O3=some (.lst uK):=by
     rw[zQ qEZ];exact qBX
    have r6l:upd H5 pr (.lst (rv++uK)) pl=some (.lst (aC lf)):=by
     rw[zQ qB6.symm];exact hl5.1
    have r6q:upd H5 pr (.lst (rv++uK)) pq=some (.lst (aC (Lb c st ev))):=by
     rw[zQ qF0];exact hq5.1
    generalize upd H5 pr (.lst (rv++uK))=H6 at k6 GR hL6 r6 r6b r6l r6q ⊢;refine⟨_,rfl,.inl ⟨rfl,_,aQ.of r6l⟩,_,rfl,aF (aK.of (k6 _ _ htt)) rfl ⟨O3,uK,es2,rfl,r6b,Wf.mono (fun _ _ z=>z.mono k6),le2,fun po7 H7 s7 npo7 qFQ=>?_⟩⟩;have lo:=Ur es2;refine⟨pl,po7,_,_,rfl,rfl,s7 _ _ r6l,qFQ,(by rw[zU,zU,sizeLine_eq];lia),?_⟩;have k8:=aA.lst (s7 _ _ r6l) (.lst (aC lf++aC (outs es2)));have FP:aA H5 (upd H7 pl (.lst (aC lf++aC (outs es2)))):=k6.trans ((aA.of s7).trans k8);refine⟨ps2,wQ,rv++uK,lf++outs es2,es++es2,s2,_,_,rfl,az.upd (az.trans GR (az.same wQ s7)) npl _,?_,hq5.2,LL.upd (LL.same hL6 s7) hl5.2 _,hS5.mono FP,so5,al.j.pass k si es2 s2 ji PR,?_,?_,hr5.2,Al.app (ur.mono fun _ _ z=>z.mono (k5.trans FP)) (Wf.mono fun _ _ z=>z.mono FP),by rw[dW];lia,?_,hl5.2,by rw[dW];lia⟩
    ·rw[zQ qF1];exact s7 _ _ r6q
    ·rw[Cr];exact .go DR hd z2 PR
    ·rw[zQ qB6];exact s7 _ _ r6
    ·rw[zC];unfold aC;rw[jd]
   ·have z2:inV (.int (d.room:Int)) (aC lf)=true:=by
     have:(!inV (.int (d.room:Int)) (aC lf))=false:=z
     simpa using this
    refine⟨lY,cL,rv,lf,es,si,_,_,rfl,T7,hqi,nqi,hLi,hSi,Cm,ji,?_,Ga,Ma,ur,by lia,hli,nli,by lia⟩;rw[Cr];exact .skip DR hd z2
  ·rintro σ' Hi aP;refine aJ fun G_ g_=>?_;obtain⟨lY,cL,rv,lf,es,si,o7,o8,z1,z2,_,_,z3,z4,z5,z6,z7,z8,z9,Zq,Zo,_⟩:=aP;apply g_;clear g_ G_;rw[zU]at z7 Zo;rw[List.take_length]at z7;exact⟨lY,cL,rv,lf,es,si,o7,o8,z1,z2,z3,z4,z5,z6,z7,z8,z9,Zq,by lia⟩
 rintro σ' Hi aP;refine aJ fun G_ g_=>?_;obtain⟨lY,cL,rv,lf,es,si,o7,o8,rfl,T7,hLi,hSi,Cm,ji,DR,Ga,Ma,ur,lei⟩:=aP;apply g_;clear g_ G_;refine⟨_,rfl,_,rfl,zI (by show 2<=1000;decide),fun tt htt=>?_⟩;have u9:=zF htt (.tup [V.ref lY,V.ref pr]);exact q tt lY pr rv si _ cL _ ⟨lf,es,DR,rfl⟩ ji (LL.same hLi u9) (az.trans T7 (az.same cL u9)) zC (hSi.mono (aA.of u9)) Cm (u9 _ _ Ga) Hs Ma (ur.mono fun _ _ z=>z.mono (aA.of u9)) (by rw[dz];lia)
end
end Ru
namespace Ru
open PySem L2 pQ rG CN S9 JQ jY
open GP (Al)
structure Jw(c:dC)(os:List Nat)(ks:List (List Nat)):Prop where
 inc:os.Pairwise (· < ·)
 lt:∀ o∈os,o<c.rs.length
 len:ks.length=c.rs.length
 row:∀ r∈ks,(∀ g∈r,g<c.rs.length)/\r.length<=40
theorem Mp{rs:List Rm}{os:List Nat}{r g:Nat}(h:g∈jt rs os r):g∈os:=by
 unfold jt fJ at h
 split at h
 ·exact (lW.mp (List.mem_of_mem_take h)).1
 ·exact (lW.mp (lW.mp h).1).1
theorem Mq(rs:List Rm)(os:List Nat)(r:Nat):(jt rs os r).length<=os.length:=by
 unfold jt fJ;have:=rT (fun o=>Tr.bA (aD rs) o r) os
 split
 ·rw[jP];lia
 ·exact Nat.le_trans (rT _ _) this
theorem FJ{rs:List Rm}{os:List Nat}:∀(ls:List Nat)(ks:List (List Nat))(r:List Nat),r∈bH rs os ls ks->r∈ks ∨ ∃ x,r=jt rs os x
 | [],ks,r,h=>.inl h
 | x::ls,ks,r,h=>by
  have h:r∈bH rs os ls (if cV rs x=("" : Str) then ks else ks.set x (jt rs os x)):=h;rcases FJ ls _ r h with h | h
  ·split at h
   ·exact .inl h
   ·rcases List.mem_or_eq_of_mem_set h with h | h
    ·exact .inl h
    ·exact .inr ⟨x,h⟩
  ·exact .inr h
section
variable{c:dC}{os:List Nat}{ks:List (List Nat)}
theorem Jw.qET(j:Jw c os ks)(ok:rM c):os.length<=40:=Nat.le_trans (Tr.jq _ _ (Tr.fX j.inc) j.lt) ok.r40
theorem Jw.kept(j:Jw c os ks)(ok:rM c)(d:Dx):(mZ c d os ks).length=c.rs.length/\∀ r∈mZ c d os ks,(∀ g∈r,g<c.rs.length)/\r.length<=40:=by
 unfold mZ
 split
 ·exact⟨j.len,j.row⟩
 ·refine⟨by rw[ql];exact j.len,fun r hr=>?_⟩;rcases FJ _ _ r hr with h | ⟨x,rfl⟩
  ·exact j.row r h
  ·exact⟨fun g hg=>j.lt g (Mp hg),Nat.le_trans (Mq _ _ _) (j.qET ok)⟩
theorem RJ{n:Nat}(w:Wy)(ks:List (List Nat))(hw:w.gl<n)(hk:∀ r∈ks,(∀ g∈r,g<n)/\r.length<=40):(∀ g∈jG w ks,g<n)/\(jG w ks).length<=100:=by
 cases w with
 | to g=>exact⟨fun x hx=>by rw[cB.mp hx];exact hw,by show 1<=100;decide⟩
 | stay=>exact⟨(fun x hx=>by cases hx),by show 0<=100;decide⟩
 | back g=>
  show (∀ x∈(if ks.getD g []=[] then [g] else ks.getD g []),x<n)/\(if ks.getD g []=[] then [g] else ks.getD g []).length<=100
  split
  ·exact⟨fun x hx=>by rw[cB.mp hx];exact hw,by show 1<=100;decide⟩
  ·rename_i z
   by_cases q:g<ks.length
   ·have e:ks.getD g []=ks[g]:=by rw[lX,gq q];rfl
    have:=hk _ (je q);rw[e];exact⟨this.1,by lia⟩
   ·exact absurd (by rw[lX,List.getElem?_eq_none (by lia)];rfl) z
theorem vB{d:Dx}{k:Nat}(h:k∈cU c d os):k∈os/\k∉bQ c d os:=by
 unfold cU at h;obtain⟨h1,h2⟩:=lW.mp h;rw[JM.Vb]at h2;exact⟨h1,by simpa using h2⟩
theorem Mu{d:Dx}{ms:List Nat}(h:tR c d ks ms){k:Nat}(hk:k∈cU c d os):k∉ms:=by
 intro hm;obtain⟨h1,h2⟩:=vB hk;unfold tR at h
 split at h
 ·rw[h]at hm
  cases hm
 ·rename_i z
  refine h2 ?_;unfold bQ;rw[if_neg z];unfold JM.jT;rw[List.mem_reverse,lW];refine⟨h1,?_⟩;have:=((h.2 k).mp hm).under
  cases hh:pL c d with
  | none=>rfl
  | some u=>
   rw[hh]at this;exact this
theorem R5{d:Dx}{ms:List Nat}(h:tR c d ks ms):ms.Pairwise (· < ·):=by
 unfold tR at h
 split at h
 ·rw[h];exact .nil
 ·exact h.1
theorem Ig(ok:rM c){d:Dx}{ms:List Nat}(h:tR c d ks ms):∀ k∈ms,k<c.rs.length:=by
 intro k hk;unfold tR at h
 split at h
 ·rw[h]at hk
  cases hk
 ·have:=((h.2 k).mp hk).lt (by have:=ok.good.pos;lia);rw[yV]at this;exact this
theorem Va{d:Dx}{a b:List Nat}(h1:tR c d ks a)(h2:tR c d ks b):a=b:=by
 unfold tR at h1 h2
 split at h1
 ·rename_i z
  rw[if_pos z]at h2;rw[h1,h2]
 ·rename_i z
  rw[if_neg z]at h2;exact h1.unique h2
theorem wide(ok:rM c):JOk c (Jw c) where
 may:=fun os ks j d hd=>by
  have jk:=j.kept ok d;have g:=RJ d.way _ (ok.door d hd).2.1 jk.2;refine⟨g.1,g.2,fun ms hms=>?_⟩;have ml:=Ig ok hms;have sl:∀ k∈cU c d os,k<c.rs.length:=fun k hk=>j.lt k (vB hk).1;have nd:(cU c d os++ms).Nodup:=List.nodup_append.mpr ⟨Tr.fX (j.inc.filter _),Tr.fX (R5 hms),fun a ha b hb e=>Mu hms ha (by rw[e];exact hb)⟩;refine⟨nd,Nat.le_trans (Tr.jq _ _ nd fun k hk=>?_) ok.r40,ml⟩;rcases cX.mp hk with h | h
  ·exact sl k h
  ·exact ml k h
 pass:=fun k s es s' j ⟨d,ms,hd,hms,perm,rise,eks,_⟩=>by
  have jk:=j.kept ok d;refine⟨rise,fun o ho=>?_,by rw[eks];exact jk.1,by rw[eks];exact jk.2⟩;rcases cX.mp (perm.mem_iff.mp ho) with h | h
  ·exact j.lt o (vB h).1
  ·exact Ig ok hms o h
theorem QJ{k:Nat}{s s1 s2:S4}{e1 e2:List En}(h1:Ab c k s e1 s1)(h2:Ab c k s e2 s2):e1=e2/\s1=s2:=by
 obtain⟨d,ms,hd,hm,p1,r1,k1,q1⟩:=h1;obtain⟨d',wC,hd',hm',p2,r2,k2,q2⟩:=h2;obtain rfl:d=d':=jO (hd.symm.trans hd');obtain rfl:=Va hm hm'
 have eo:s1.os=s2.os:=gA _ _ r1 r2 fun k=>by rw[p1.mem_iff,p2.mem_iff]
 have eq:=q1.trans q2.symm;obtain⟨o1,b1,x1,l1⟩:=s1;obtain⟨o2,b2,x2,l2⟩:=s2
 cases k1
 cases k2
 cases eo
 cases eq
 exact⟨rfl,rfl⟩
theorem N7{s:S4}{ks lf:List Nat}{es:List En}{s1:S4}(h1:iy c s ks lf es s1):∀ {ks' ZZ:List Nat} {es':List En} {UG:S4},iy c s ks' ZZ es' UG->ks=ks'->lf=ZZ/\es=es'/\s1=UG:=by
 induction h1 with
 | nil=>
  intro ks' ZZ es' UG h2 e
  cases h2 with
  | nil=>exact⟨rfl,rfl,rfl⟩
  | skip h hd hi=>exact absurd e.symm (by simp)
  | go h hd hi hp=>exact absurd e.symm (by simp)
 | @skip ks lf es s1 k d h hd hi ih=>
  intro ks' ZZ es' UG h2 e
  cases h2 with
  | nil=>exact absurd e (by simp)
  | @skip ks2 _ _ _ k2 d2 h' hd' hi'=>
   obtain⟨ea,eb⟩:=List.append_inj' e rfl;exact ih h' ea
  | @go ks2 lf2 es2 e2 s2 s3 k2 d2 h' hd' hi' hp'=>
   obtain⟨ea,eb⟩:=List.append_inj' e rfl;obtain⟨rfl,rfl,rfl⟩:=ih h' ea
   cases eb
   obtain rfl:=jO (hd.symm.trans hd');rw[hi]at hi'
   cases hi'
 | @go ks lf es e1 s1 s2 k d h hd hi hp ih=>
  intro ks' ZZ es' UG h2 e
  cases h2 with
  | nil=>exact absurd e (by simp)
  | @skip ks2 _ _ _ k2 d2 h' hd' hi'=>
   obtain⟨ea,eb⟩:=List.append_inj' e rfl;obtain⟨rfl,rfl,rfl⟩:=ih h' ea
   cases eb
   obtain rfl:=jO (hd.symm.trans hd');rw[hi]at hi'
   cases hi'
  | @go ks2 lf2 es2 e2 s2 s3 k2 d2 h' hd' hi' hp'=>
   obtain⟨ea,eb⟩:=List.append_inj' e rfl;obtain⟨rfl,rfl,rfl⟩:=ih h' ea
   cases eb
   obtain⟨rfl,rfl⟩:=QJ hp hp';exact⟨rfl,rfl,rfl⟩
theorem Cy{ev:Int}{s s1 s2:S4}{e1 e2:List En}(h1:zz c ev s e1 s1)(h2:zz c ev s e2 s2):e1=e2/\s1=s2:=by
 obtain⟨lf,x,d1,rfl⟩:=h1;obtain⟨ZZ,x',d2,rfl⟩:=h2;obtain⟨_,rfl,rfl⟩:=N7 d1 d2 rfl;exact⟨rfl,rfl⟩
end
structure Np(nb:Nat)(H:Hp)(rv:List V)(rs:List Rm)(dis uH:List (List Dd)):Prop where
 inn:gW H rv rs
 l1:dis.length=rs.length
 l2:uH.length=rs.length
 dd:Wm H rs (fun k=>dis.getD k []) (fun k=>uH.getD k [])
 say:∀ k:Nat,((∀ d∈dis.getD k [],d.ok nb)/\(dis.getD k []).length<=8)/\(∀ d∈uH.getD k [],d.ok nb)/\(uH.getD k []).length<=8
theorem Np.mono{nb:Nat}{H H':Hp}{rv:List V}{rs:List Rm}{dis uH:List (List Dd)}(x:Np nb H rv rs dis uH)(k:aA H H'):Np nb H' rv rs dis uH:=⟨x.inn.mono k,x.l1,x.l2,x.dd.mono k,x.say⟩
theorem Np.nil{nb:Nat}(H:Hp):Np nb H [] [] [] []:=⟨.nil,rfl,rfl,(fun k r h=>by simp at h),fun k=>⟨⟨(fun d h=>by simp at h),by simp⟩,(fun d h=>by simp at h),by simp⟩⟩
theorem getD_snoc{α:Type}(l:List α)(x d:α)(k:Nat):(l++[x]).getD k d=if k<l.length then l.getD k d else if k=l.length then x else d:=by
 rw[lX]
 by_cases h:k<l.length
 ·rw[if_pos h,Ck h,lX]
 ·rw[if_neg h]
  by_cases h2:k=l.length
  ·rw[if_pos h2,h2,Sy (bM _),Nat.sub_self];rfl
  ·rw[if_neg h2,List.getElem?_eq_none (by rw[dW,gj];lia)];rfl
theorem Np.snoc{nb:Nat}{H:Hp}{rv:List V}{rs:List Rm}{dis uH:List (List Dd)}(x:Np nb H rv rs dis uH){v:V}{r:Rm}{di dO:List Dd}(hr:JG H v r)(h1:rH H r.ins di)(h2:rH H r.outs dO)
  (s1:(∀ d∈di,d.ok nb)/\di.length<=8) (s2:(∀ d∈dO,d.ok nb)/\dO.length<=8):Np nb H (rv++[v]) (rs++[r]) (dis++[di]) (uH++[dO]):=by
 have a1:=x.l1;have a2:=x.l2;refine⟨x.inn.snoc hr,by rw[dW,dW,a1];rfl,by rw[dW,dW,a2];rfl,fun k q h=>?_,fun k=>?_⟩
 ·show rH H q.ins ((dis++[di]).getD k [])/\rH H q.outs ((uH++[dO]).getD k [])
  by_cases z:k<rs.length
  ·rw[Ck z]at h;rw[getD_snoc,getD_snoc,if_pos (show k<dis.length by lia),if_pos (show k<uH.length by lia)];exact x.dd k q h
  ·have hk:=(lQ.mp h).1;rw[dW,gj]at hk
   have z2:k=rs.length:=by lia
   subst z2;rw[Sy (bM _),Nat.sub_self]at h;obtain rfl:=jO h;rw[getD_snoc,getD_snoc,if_neg (by lia),if_pos (by lia),if_neg (by lia),if_pos (by lia)];exact⟨h1,h2⟩
 ·rw[getD_snoc,getD_snoc];have xs:=x.say k;have no:((∀ d∈([]:List Dd),d.ok nb)/\([]:List Dd).length<=8):=⟨(fun d h=>by cases h),by decide⟩;refine⟨?_,?_⟩
  ·split
   ·exact xs.1
   ·split
    ·exact s1
    ·exact no
  ·split
   ·exact xs.2
   ·split
    ·exact s2
    ·exact no
end Ru
namespace uz
open PySem L2 pQ rG CN JQ
theorem v9{zs:List Str}{i:Int}(h0:0<=i)(h1:i<(zs.length:Int)):∃ z∈zs,uQ (zs.map V.str) i=some (.str z):=by
 obtain⟨v,hv,e⟩:=jx (xs:=zs.map V.str) (i:=i) h0 (by rw[bZ];exact h1);obtain⟨z,hz,rfl⟩:=eQ.mp hv;exact⟨z,hz,e⟩
noncomputable def Av:Sp:=fun vs H Q _ => ∃ k n:Int,vs=[.int k,.int n]/\∀(z:Str)(H':Hp),aG H H'->Q (.str z) H'
noncomputable def jK(H:Hp)(ps:Addr)(sz:List Int):Prop:=H ps=some (.lst (sz.map V.int))/\(∀ z∈sz,0<z)/\sz.length<=6
theorem jK.mono{H H':Hp}{ps:Addr}{sz:List Int}(h:jK H ps sz)(s:aG H H'):jK H' ps sz:=⟨s _ _ h.1,h.2⟩
noncomputable def PQ:Sp:=fun vs H Q _ => ∃(n e:Int)(ps:Addr)(sz:List Int),vs=[.int n,.ref ps,.int e]/\0<=n/\n<2147483648/\jK H ps sz/\∀(v:V)(d:Dd)(H':Hp),aG H H'->tU H' v d->d.ok sz.length->Q v H'
noncomputable def Aw(K:bO):Sp:=fun vs H Q _ => ∃(a ps:Addr)(ns sz:List Int)(k salt e:Int),vs=[.ref a,.int k,.int salt,.ref ps,.int e]/\aQ K H a (ns.map V.int)/\ns.length<=63/\(0<=k/\k<=1000)/\(0<=salt/\salt<=100)/\jK H ps sz/\∀(v:V)(ds:List Dd)(H':Hp),aG H H'->Ru.rH H' v ds->(∀ d∈ds,d.ok sz.length)->ds.length<=8->Q v H'
noncomputable def kW(h:Nat):Sp:=fun vs H Q _ => ∃(n r hi:Int)(nb:Nat),vs=[.int n,.int r,.int (nb:Int),.int hi]/\0<r/\1<=hi/\hi<=(h:Int)/\∀(v:V)(g:Gd)(H':Hp),aG H H'->jc H' v g->g.ok nb->(g.ht:Int)<=hi->Q v H'
section
variable{P:Program}{w:World}{K:bO}{mg:Str->Option Value}{base:Heap}
theorem mH:aH ["_law_k","_law_number","_law_rest","_law_at"] ["_law_k","_law_number"] (aB qK):=eO
theorem V1{f:Addr}{fd:FuncData}(F:cY K "_law_name" "_law_name" qK f fd)(aR:mg "len" = none):aM P w K mg base aW 1 f fd ["_law_k","_law_number"] Av:=by
 refine F.ok mH (fun vs H Q E h=>?_) (fun cdv A outer s H vs Q E hr h=>?_)
 ·refine aJ fun G_ g_=>?_;obtain⟨k,n,rfl,_⟩:=h;apply g_;clear g_ G_;rfl
 refine aJ fun G_ g_=>?_;obtain⟨k,n,rfl,q⟩:=h;apply g_;clear g_ G_
 refine⟨_,(zE (zK (i:=2) mH.nd rfl (Or.inl rfl) (yB yU (yK (zA zP (zA zP (zA zP (zA zP zD))))) (yC zY (pv 1) zB) (fun _ _=>rfl)))
  (zE (zK (i:=3) mH.nd rfl (Or.inl rfl) (pH (yC zY (yC yL (pv 1) zB) (yC yF (zS CG rfl aR cA (zA (pv 2) zD)) zB))))
  (zG (zO (yC wA (yC wA (jo Pa (pv 2) ni (nZ (pv 3))) (yB YZ zP (yC zY (pv 0) zB) (fun _ _=>rfl))) (jo Pa (pv 2) (nZ (pv 3)) ni)))))),?_⟩
 refine aJ fun G_ g_=>?_;obtain⟨z,hz,hat⟩:=v9 (zs:=[("" : Str),"hall","quiet","aaaaaaaaaaa"]) (i:=n%4) (by lia) (by show _<(4:Int);lia);apply g_;clear g_ G_
 have lz:z.length<=11:=by
  simp only[List.mem_cons,List.not_mem_nil,or_false]at hz;rcases hz with rfl | rfl | rfl | rfl <;> decide +kernel
 have hz':z.length<=sizeLine:=zI (by lia);have sl:∀(lo hi:Option Int),(Txt.slice z lo hi).length<=11:=fun lo hi=>Nat.le_trans (Txt.slice_le z lo hi) lz;refine⟨zI (by show 4<=1000;decide),fun p hp=>⟨_,rfl,aq ⟨(by show (0:Int)<4;decide),bY (aQ.of zC) hat ?_⟩⟩⟩;have s1:=zF hp (.lst [V.str "",V.str "hall",V.str "quiet",V.str "aaaaaaaaaaa"]);refine⟨fun v H'=>aG H H'/\∃ t:Int,v = .int t,?_,?_⟩
 ·exact⟨_,rfl,aq ⟨⟨by decide,by decide⟩,_,rfl,z,rfl,hz',_,_,rfl,rfl,aq ⟨(by show (0:Int)<(z.length:Int)+1;lia),s1,_,rfl⟩⟩⟩
 rintro _ H2 aP;refine aJ fun G_ g_=>?_;obtain⟨s2,t,rfl⟩:=aP;obtain⟨c1,_,h1⟩:=jx (xs:=("abcdefghijklmnopqrstuvwxyz" : Str).cps.toList) (i:=k%26) (by lia) (by show k%26<26;lia);apply g_;clear g_ G_
 have la:∀ x y:Str,(x++y).length=x.length+y.length:=fun x y=>by
  show (x.cps++y.cps).size=_;rw[Array.size_append];rfl
 have lo:∀ c:Nat,(⟨#[c]⟩:Str).length=1:=fun c=>rfl;have l1:=sl none (some t);have l2:=sl (some t) none;exact⟨_,rfl,_,rfl,_,rfl,z,rfl,hz',_,rfl,aq ⟨(by show (0:Int)<26;decide),_,_,c1,rfl,rfl,zI (by decide +kernel),h1,_,_,rfl,rfl,zI (by rw[lo];lia),_,rfl,_,rfl,_,rfl,z,rfl,hz',_,_,rfl,rfl,zI (by rw[la,lo];lia),q _ H2 s2⟩⟩
theorem jB:aH ["_law_number","_law_sizes","_law_events","_law_way","_law_rest","_law_b"] ["_law_number","_law_sizes","_law_events"] (aB qM):=eO
theorem VD{f gn:Addr}{fd dn:FuncData}(F:cY K "_law_deed" "_law_deed" qM f fd)(dZ:Dp P w K mg base aW 1 gn dn ["_law_k","_law_number"] Av "_law_name")
  (aR:mg "len" = none):aM P w K mg base aW 2 f fd ["_law_number","_law_sizes","_law_events"] PQ:=by
 refine F.ok jB (fun vs H Q E h=>?_) (fun cdv A outer s H vs Q E hr h=>?_)
 ·refine aJ fun G_ g_=>?_;obtain⟨n,e,ps,sz,rfl,_⟩:=h;apply g_;clear g_ G_;rfl
 refine aJ fun G_ g_=>?_;obtain⟨n,e,ps,sz,rfl,n0,n1,hsz,q⟩:=h;apply g_;clear g_ G_
 refine⟨_,(zE (zK (i:=3) jB.nd rfl (Or.inl rfl) (yB yU (yK (zA zB (zA zB (zA zB (zA zB (zA zB zD)))))) (yC zY (pv 0) zB) (fun _ _=>rfl)))
  (zE (zK (i:=4) jB.nd rfl (Or.inl rfl) (yC yL (pv 0) zB))
  (zE (yD (bc (PW.pt (pw_and (zL yG (pv 3) zB (zR _)) (yP (zL jD (pv 2) zB (zR _))))))
  (zG (zO (zW (zA zP (zA (yC zY (pv 4) (pv 2)) zD)))))
  zT)
  (zE (yD (bc (PW.pt (pw_and (zL yG (pv 3) zB (zR _)) (yP (zL jD (zS zN rfl aR cA (zA (pv 1) zD)) zB (zR _))))))
  (zE (zK (i:=5) jB.nd rfl (Or.inl rfl) (yC zY (pv 4) (zS zN rfl aR cA (zA (pv 1) zD))))
  (zG (zO (zW (zA zP (zA (pv 5) (zA (yC zY (yC yL (pv 4) zB) (yB yU (pv 1) (pv 5) (fun _ _=>rfl))) zD)))))))
  zT)
  (zE (yD (bc (PW.pt (pw_and (zL yG (pv 3) zB (zR _)) (pw_and (zL jD (zS zN rfl aR cA (zA (pv 1) zD)) zB (zR _)) (yP (zL yG (yC zY (yC yL (pv 4) zB) zB) zB (zR _)))))))
  (zG (zO (zW (zA zP (zA (yC zY (pv 4) (zS zN rfl aR cA (zA (pv 1) zD))) (zA (yC fW (yC yF (yC fW (pv 4) (yC QQ zB zB)) (pv 4)) (yC lC zB (yC fW zB (yC zY (yC yL (pv 4) zB) zB)))) zD))))))
  zT)
  (zE (yD (bc (PW.pt (pw_and (zL yG (pv 3) zB (zR _)) (yP (zL jD (zS zN rfl aR cA (zA (pv 1) zD)) zB (zR _))))))
  (zG (zO (zW (zA zP (zA (yC zY (pv 4) (zS zN rfl aR cA (zA (pv 1) zD))) (zA (yC lC (yC zY (yC yL (pv 4) zB) zB) zB) zD))))))
  zT)
  (zE (yD (zL yG (yC zY (pv 4) zB) zB (zR _))
  (zG (zO (zW (zA zP (zA zP zD)))))
  zT)
  (zG (zO (zW (zA zP (zA (pC dZ hr (zA (yC zY (yC yL (pv 4) zB) zB) (zA (yC yL (pv 4) zB) zD))) zD)))))))))))),?_⟩
 obtain⟨v,hat⟩:=Le (ns:=[0,1,1,2,3]) (i:=n%5) (by lia) (by show _<(5:Int);lia);have hl:(sz.map V.int).length=sz.length:=bZ _;refine⟨zI (by show 5<=1000;decide),fun p0 hp0=>⟨_,rfl,aq ⟨(by show (0:Int)<5;decide),bY (aQ.of zC) hat ?_⟩⟩⟩;have s1:=zF hp0 (.lst [V.int 0,V.int 1,V.int 1,V.int 2,V.int 3]);have hz1:=hsz.mono s1;generalize upd H p0 (.lst [V.int 0,V.int 1,V.int 1,V.int 2,V.int 3])=H1 at s1 hz1 ⊢;refine⟨_,rfl,aq ⟨⟨by decide,by decide⟩,?_⟩⟩
 have r0:0<=n/5:=by lia
 have r1:n/5<2147483648:=by lia
 refine⟨fun c H'=>H'=H1/\(c=true->0<e),?_,?_⟩
 ·refine⟨_,rfl,rfl,_,rfl,?_⟩;refine fH (fun c=>?_) (fun c=>⟨rfl,fun z=>(by cases z)⟩);exact⟨_,rfl,aq ⟨_,rfl,rfl,fun z=>of_decide_eq_true z⟩⟩
 rintro c1 H' ⟨rfl,hc1⟩;refine fH (fun c=>?_) (fun c=>?_)
 ·have he:=hc1 c;exact⟨_,rfl,_,rfl,aq ⟨(by show (0:Int)<e;exact he),zI (by show 2<=1000;decide),fun p hp=>q _ (.send _) _ (s1.trans (zF hp _)) (.send zC) (fun b hb=>by cases hb)⟩⟩
 refine⟨fun c H2=>H2=H'/\(c=true->0<sz.length),?_,?_⟩
 ·exact⟨_,rfl,rfl,_,rfl,fH (fun c=>⟨_,rfl,iZ rfl (.inl (aQ.of hz1.1)) (aq ⟨_,rfl,rfl,fun z=>(by have:=of_decide_eq_true z;rw[hl]at this;lia)⟩)⟩) (fun c=>⟨rfl,fun z=>(by cases z)⟩)⟩
 rintro c2 H2 ⟨rfl,hc2⟩;refine fH (fun c=>?_) (fun c=>?_)
 ·have he:=hc2 c;have h0:=pW (n/5) (show (((sz.map V.int).length:Nat):Int)≠0 by lia);have h1:=rR (n/5) (show (0:Int)<(((sz.map V.int).length:Nat):Int) by lia);refine aJ fun G_ g_=>?_;obtain⟨vz,hvz,qG4⟩:=jx (xs:=sz.map V.int) (i:=n/5%(((sz.map V.int).length:Nat):Int)) h0 h1;obtain⟨z,hzm,rfl⟩:=eQ.mp hvz;apply g_;clear g_ G_;refine⟨_,rfl,_,rfl,iZ rfl (.inl (aQ.of hz1.1)) (aq ⟨(by show (0:Int)<(((sz.map V.int).length:Nat):Int);lia),?_⟩)⟩;exact⟨_,rfl,_,rfl,aq ⟨⟨by decide,by decide⟩,_,rfl,_,rfl,bY (aQ.of hz1.1) qG4 (aq ⟨(by show (0:Int)<z;exact hz1.2.1 z hzm),zI (by show 3<=1000;decide),fun p hp=>q _ (.set _ _) _ (s1.trans (zF hp _)) (.set zC) (fun b hb=>by cases hb;exact⟨pW _ (by lia),by rw[<-hl];exact rR _ (by lia)⟩)⟩)⟩⟩
 refine⟨fun c H3=>H3=H2/\(c=true->0<sz.length),?_,?_⟩
 ·refine⟨_,rfl,rfl,_,rfl,fH (fun c=>?_) (fun c=>⟨rfl,fun z=>(by cases z)⟩)⟩;refine⟨_,rfl,iZ rfl (.inl (aQ.of hz1.1)) (aq ⟨_,rfl,fH (fun c=>?_) (fun c=>⟨rfl,fun z=>(by cases z)⟩)⟩)⟩
  ·have:=of_decide_eq_true c;rw[hl]at this;exact⟨_,rfl,aq ⟨⟨by decide,by decide⟩,_,_,rfl,rfl,(by show (0:Int)<5;decide),rfl,_,rfl,rfl,fun _=>by lia⟩⟩
 rintro c3 H3 ⟨rfl,hc3⟩;refine fH (fun c=>?_) (fun c=>?_)
 ·have he:=hc3 c;exact⟨_,rfl,_,rfl,iZ rfl (.inl (aQ.of hz1.1)) (aq ⟨(by show (0:Int)<(((sz.map V.int).length:Nat):Int);lia),_,rfl,aq ⟨⟨by decide,by decide,by decide⟩,_,_,rfl,rfl,.inl ⟨by lia,by lia⟩,_,rfl,aq ⟨_,rfl,aq ⟨⟨by decide,by decide⟩,_,_,rfl,rfl,(by show (0:Int)<2;decide),_,_,rfl,rfl,.inl ⟨by decide,by decide⟩,_,_,rfl,rfl,aq ⟨.inr ⟨by lia,by lia⟩,zI (by show 3<=1000;decide),fun p hp=>q _ (.add _ _) _ (s1.trans (zF hp _)) (.add zC) (fun b hb=>by cases hb;exact⟨pW _ (by lia),by rw[<-hl];exact rR _ (by lia)⟩)⟩⟩⟩⟩⟩)⟩
 refine⟨fun c H4=>H4=H3/\(c=true->0<sz.length),?_,?_⟩
 ·exact⟨_,rfl,rfl,_,rfl,fH (fun c=>⟨_,rfl,iZ rfl (.inl (aQ.of hz1.1)) (aq ⟨_,rfl,rfl,fun z=>(by have:=of_decide_eq_true z;rw[hl]at this;lia)⟩)⟩) (fun c=>⟨rfl,fun z=>(by cases z)⟩)⟩
 rintro c4 H4 ⟨rfl,hc4⟩;refine fH (fun c=>?_) (fun c=>?_)
 ·have he:=hc4 c;exact⟨_,rfl,_,rfl,iZ rfl (.inl (aQ.of hz1.1)) (aq ⟨(by show (0:Int)<(((sz.map V.int).length:Nat):Int);lia),_,rfl,aq ⟨⟨by decide,by decide⟩,_,_,rfl,rfl,(by show (0:Int)<9;decide),_,_,rfl,rfl,zI (by show 3<=1000;decide),fun p hp=>q _ (.add _ _) _ (s1.trans (zF hp _)) (.add zC) (fun b hb=>by cases hb;exact⟨pW _ (by lia),by rw[<-hl];exact rR _ (by lia)⟩)⟩⟩)⟩
 refine⟨_,rfl,aq ⟨(by show (0:Int)<2;decide),rfl,_,rfl,fH (fun c=>?_) (fun c=>?_)⟩⟩
 ·exact⟨zI (by show 2<=1000;decide),fun p hp=>q _ (.say _) _ (s1.trans (zF hp _)) (.say zC) (fun b hb=>by cases hb)⟩
 ·exact⟨_,rfl,aq ⟨⟨by decide,by decide⟩,_,_,rfl,rfl,(by show (0:Int)<3;decide),_,rfl,aq ⟨⟨by decide,by decide⟩,_,_,rfl,fun z H5 s5=>⟨zI (by show 2<=1000;decide),fun p hp=>q _ (.say _) _ ((s1.trans s5).trans (zF hp _)) (.say zC) (fun b hb=>by cases hb)⟩⟩⟩⟩
theorem eX:aH ["_law_script","_law_k","_law_salt","_law_sizes","_law_events","_law_number","_law_many","_law_deeds_here","_law_j"] ["_law_script","_law_k","_law_salt","_law_sizes","_law_events"] (aB nU):=eO
theorem Qg{f gm gd:Addr}{fd dm dd:FuncData}(F:cY K "_law_deeds" "_law_deeds" nU f fd)
  (aL:Dp P w K mg base aW 2 gm dm ["_law_script","_law_k","_law_salt"] (kJ K) "_law_mixed")
  (JW:Dp P w K mg base aW 2 gd dd ["_law_number","_law_sizes","_law_events"] PQ "_law_deed")
  (aY:mg "range" = none) (aU:mg "tuple" = none):aM P w K mg base aW 3 f fd ["_law_script","_law_k","_law_salt","_law_sizes","_law_events"] (Aw K):=by
 refine F.ok eX (fun vs H Q E h=>?_) (fun cdv A outer s H vs Q E hr h=>?_)
 ·refine aJ fun G_ g_=>?_;obtain⟨a,ps,ns,sz,k,salt,e,rfl,_⟩:=h;apply g_;clear g_ G_;rfl
 refine aJ fun G_ g_=>?_;obtain⟨a,ps,ns,sz,k,salt,e,rfl,hS,h63,⟨k0,k1⟩,⟨t0,t1⟩,hsz,q⟩:=h;apply g_;clear g_ G_
 refine⟨_,(zE (zK (i:=5) eX.nd rfl (Or.inl rfl) (pC aL hr (zA (pv 0) (zA (pv 1) (zA (pv 2) zD)))))
  (zE (zK (i:=6) eX.nd rfl (Or.inl rfl) (yB yU (yK (zA zB (zA zB (zA zB (zA zB (zA zB (zA zB (zA zB (zA zB zD))))))))) (yC zY (pv 5) zB) (fun _ _=>rfl)))
  (zE (zK (i:=7) eX.nd rfl (Or.inl rfl) (yK zD))
  (zZ (bU PassesOwn.never rfl (bT rfl aY (zA (pv 6) zD)) (yJ (i:=8) eX.nd rfl (Or.inl rfl))
  (zG (yI (dJ j7 pY pX yH (pv 7) (zA (pC JW hr (zA (pC aL hr (zA (pv 0) (zA (pv 1) (zA (yC yF (yC yF (pv 2) zB) (pv 8)) zD)))) (zA (pv 3) (zA (pv 4) zD)))) zD)))))
  (zG (zO (yA zX rfl aU lV (zA (pv 7) zD)))))))),?_⟩
 refine⟨_,rfl,_,rfl,_,rfl,a,ns,_,_,rfl,hS,h63,⟨by lia,by lia⟩,⟨by lia,by lia⟩,fun x x0 x1=>?_⟩;refine aJ fun G_ g_=>?_
 obtain⟨m,hm,hat⟩:∃ m:Nat,m<=3/\uQ [V.int 0,V.int 0,V.int 1,V.int 1,V.int 1,V.int 2,V.int 2,V.int 3] (x%8)=some (.int (m:Int)):=by
  obtain⟨o,ho,e⟩:=El (os:=[0,0,1,1,1,2,2,3]) (i:=x%8) (by lia) (by show _<(8:Int);lia);refine⟨o,?_,e⟩;simp only[List.mem_cons,List.not_mem_nil,or_false]at ho;lia
 apply g_;clear g_ G_;refine⟨zI (by show 8<=1000;decide),fun p0 hp0=>⟨_,rfl,aq ⟨(by show (0:Int)<8;decide),bY (aQ.of zC) hat ?_⟩⟩⟩;have s1:=zF hp0 (.lst [V.int 0,V.int 0,V.int 1,V.int 1,V.int 1,V.int 2,V.int 2,V.int 3]);generalize upd H p0 (.lst [V.int 0,V.int 0,V.int 1,V.int 1,V.int 1,V.int 2,V.int 2,V.int 3])=H1 at s1 ⊢;refine⟨Nat.zero_le _,fun pd hpd=>?_⟩;have Qk:H pd=none:=s1.free hpd;have s2:=s1.trans (zF hpd (.lst []));refine⟨fun σ' H'=>∃(xs:List V)(ds:List Dd),aG H H'/\H' pd=some (.lst xs)/\gO H' xs ds/\(∀ d∈ds,d.ok sz.length)/\ds.length<=8/\∃ o8:Option V,σ'=[some (.ref a),some (.int k),some (.int salt),some (.ref ps),some (.int e),some (.int x),some (.int (m:Int)),some (.ref pd),o8],?_,?_⟩
 ·refine⟨_,rfl,_,rfl,by lia,by lia,?_⟩;refine cT (fun i σ' H'=>∃(xs:List V)(ds:List Dd),aG H H'/\H' pd=some (.lst xs)/\gO H' xs ds/\(∀ d∈ds,d.ok sz.length)/\ds.length<=i/\∃ o8:Option V,σ'=[some (.ref a),some (.int k),some (.int salt),some (.ref ps),some (.int e),some (.int x),some (.int (m:Int)),some (.ref pd),o8])
   ⟨[],[],s2,zC,.nil,(fun d h=>by cases h),bM _,_,rfl⟩ ?_ (fun σ' H' ⟨xs,ds,s3,h3,hD,ok,l,r⟩=>⟨xs,ds,s3,h3,hD,ok,by lia,r⟩)
  rintro i σ' H3 hi aP;refine aJ fun G_ g_=>?_;obtain⟨xs,ds,s3,h3,hD,ok,lx,o8,rfl⟩:=aP;apply g_;clear g_ G_;have lx2:=hD.length;refine⟨_,rfl,.inl ⟨rfl,_,aQ.of h3⟩,_,rfl,_,rfl,_,rfl,aq ⟨_,rfl,aq ⟨a,ns,_,_,rfl,s3.seq hS,h63,⟨by lia,by lia⟩,⟨by lia,by lia⟩,fun y y0 y1=>?_⟩⟩⟩;refine⟨_,rfl,_,rfl,y,e,ps,sz,rfl,y0,y1,hsz.mono s3,fun v d H4 s4 hd okd=>?_⟩;have k5:=aA.lst (s4 _ _ h3) (.lst (xs++[v]));refine⟨pd,_,_,rfl,rfl,s4 _ _ h3,zV (by lia),xs++[v],ds++[d],cM Qk (s3.trans s4) _,zC,(hD.mono ((aA.of s4).trans k5)).snoc (hd.mono k5),fun x hx=>?_,by rw[dW,gj];lia,_,rfl⟩;rcases cX.mp hx with hx | hx
  ·exact ok x hx
  ·rw[cB.mp hx];exact okd
 rintro σ' H3 aP;refine aJ fun G_ g_=>?_;obtain⟨xs,ds,s3,h3,hD,ok,l,o8,rfl⟩:=aP;apply g_;clear g_ G_;exact⟨_,rfl,pd,_,rfl,.inl ⟨aQ.of h3,fun p hp=>q _ ds _ (s3.trans (zF hp _)) ⟨p,xs,rfl,zC,hD.mono (aA.new hp _)⟩ ok l⟩⟩
theorem kh:aH ["_law_number","_law_rooms_here","_law_boxes","_law_high","_law_way","_law_rest"] ["_law_number","_law_rooms_here","_law_boxes","_law_high"] (aB iI):=eO
theorem Qe{n:Nat}{f:Addr}{fd:FuncData}(F:cY K "_law_guard" "_law_guard" iI f fd)(cu:Dp P w K mg base aW n f fd ["_law_number","_law_rooms_here","_law_boxes","_law_high"] (kW n) "_law_guard") :
  aM P w K mg base aW (n+1) f fd ["_law_number","_law_rooms_here","_law_boxes","_law_high"] (kW (n+1)):=by
 refine F.ok kh (fun vs H Q E h=>?_) (fun cdv A outer s H vs Q E hr h=>?_)
 ·refine aJ fun G_ g_=>?_;obtain⟨m,r,hi,b,rfl,_⟩:=h;apply g_;clear g_ G_;rfl
 refine aJ fun G_ g_=>?_;obtain⟨m,r,hi,b,rfl,r0,h1,h2,q⟩:=h;apply g_;clear g_ G_
 refine⟨_,(zE (zK (i:=4) kh.nd rfl (Or.inl rfl) (yC zY (pv 0) zB))
  (zE (zK (i:=5) kh.nd rfl (Or.inl rfl) (yC yL (pv 0) zB))
  (zE (yD (bc (PW.pt (pw_and (zL jD (pv 3) zB (zR _)) (yP (zL yG (pv 4) zB (zR _))))))
  (zG (zO (zW (zA zP (zA (pC cu hr (zA (pv 5) (zA (pv 1) (zA (pv 2) (zA (yC lC (pv 3) zB) zD))))) zD)))))
  zT)
  (zE (yD (bc (PW.pt (pw_and (zL jD (pv 3) zB (zR _)) (yP (zL yG (pv 4) zB (zR _))))))
  (zG (zO (zW (zA zP (zA (pC cu hr (zA (pv 5) (zA (pv 1) (zA (pv 2) (zA (yC lC (pv 3) zB) zD))))) (zA (pC cu hr (zA (yC yL (pv 5) zB) (zA (pv 1) (zA (pv 2) (zA (yC lC (pv 3) zB) zD))))) zD))))))
  zT)
  (zE (yD (bc (PW.pt (pw_and (zL jD (pv 3) zB (zR _)) (yP (zL yG (pv 4) zB (zR _))))))
  (zG (zO (zW (zA zP (zA (pC cu hr (zA (pv 5) (zA (pv 1) (zA (pv 2) (zA (yC lC (pv 3) zB) zD))))) (zA (pC cu hr (zA (yC yL (pv 5) zB) (zA (pv 1) (zA (pv 2) (zA (yC lC (pv 3) zB) zD))))) zD))))))
  zT)
  (zE (yD (bc (PW.pt (pw_or (zL yG (pv 4) zB (zR _)) (pw_or1 (zL yG (pv 4) zB (zR _))))))
  (zG (zO (zW (zA zP (zA (yC zY (pv 5) (pv 1)) zD)))))
  zT)
  (zE (yD (bc (PW.pt (pw_and (zL yG (pv 4) zB (zR _)) (yP (zL jD (pv 2) zB (zR _))))))
  (zG (zO (zW (zA zP (zA (yC zY (pv 5) (pv 2)) (zA (yC zY (yC yL (pv 5) zB) zB) zD))))))
  zT)
  (zE (yD (bc (PW.pt (pw_and (zL yG (pv 4) zB (zR _)) (yP (zL jD (pv 2) zB (zR _))))))
  (zG (zO (zW (zA zP (zA (yC zY (pv 5) (pv 2)) (zA (yC zY (yC yL (pv 5) zB) zB) zD))))))
  zT)
  (zG (zO (zW (zA zP zD)))))))))))),?_⟩
 refine⟨_,rfl,aq ⟨(by show (0:Int)<9;decide),?_⟩⟩;refine⟨_,rfl,aq ⟨⟨by decide,by decide⟩,?_⟩⟩;refine⟨fun c H'=>H'=H/\(c=true->1<hi),?_,?_⟩
 ·refine⟨_,rfl,aq ⟨_,rfl,fH (fun c=>?_) (fun c=>⟨rfl,fun z=>(by cases z)⟩)⟩⟩;exact⟨_,rfl,rfl,_,rfl,rfl,fun _=>of_decide_eq_true c⟩
 rintro c1 H ⟨rfl,hc1⟩;refine fH (fun c=>?_) (fun c=>?_)
 ·have hh:=hc1 c;exact⟨_,rfl,_,rfl,_,rfl,_,rfl,aq ⟨_,_,_,_,rfl,r0,by lia,by lia,fun v g H2 s2 hg Vg ght=>⟨zI (by show 2<=1000;decide),fun p hp=>q _ (.neg g) _ (s2.trans (zF hp _)) (.neg zC (hg.mono (aA.new hp _))) Vg (by show ((g.ht+1:Nat):Int)<=hi;lia)⟩⟩⟩
 refine⟨fun c H'=>H'=H/\(c=true->1<hi),?_,?_⟩
 ·refine⟨_,rfl,aq ⟨_,rfl,fH (fun c=>?_) (fun c=>⟨rfl,fun z=>(by cases z)⟩)⟩⟩;exact⟨_,rfl,rfl,_,rfl,rfl,fun _=>of_decide_eq_true c⟩
 rintro c2 H ⟨rfl,hc2⟩;refine fH (fun c=>?_) (fun c=>?_)
 ·have hh:=hc2 c;exact⟨_,rfl,_,rfl,_,rfl,_,rfl,aq ⟨_,_,_,_,rfl,r0,by lia,by lia,fun v g H2 s2 hg Vg ght=>⟨_,rfl,aq ⟨⟨by decide,by decide⟩,_,rfl,_,rfl,_,rfl,aq ⟨_,_,_,_,rfl,r0,by lia,by lia,fun v3 g3 H3 s3 hg3 Yp qGB=>⟨zI (by show 3<=1000;decide),fun p hp=>q _ (.both g g3) _ ((s2.trans s3).trans (zF hp _)) (.both zC (hg.mono (aA.of (s3.trans (zF hp _)))) (hg3.mono (aA.new hp _))) ⟨Vg,Yp⟩ (by show ((1+max g.ht g3.ht:Nat):Int)<=hi;lia)⟩⟩⟩⟩⟩⟩
 refine⟨fun c H'=>H'=H/\(c=true->1<hi),?_,?_⟩
 ·refine⟨_,rfl,aq ⟨_,rfl,fH (fun c=>?_) (fun c=>⟨rfl,fun z=>(by cases z)⟩)⟩⟩;exact⟨_,rfl,rfl,_,rfl,rfl,fun _=>of_decide_eq_true c⟩
 rintro c3 H ⟨rfl,hc3⟩;refine fH (fun c=>?_) (fun c=>?_)
 ·have hh:=hc3 c;exact⟨_,rfl,_,rfl,_,rfl,_,rfl,aq ⟨_,_,_,_,rfl,r0,by lia,by lia,fun v g H2 s2 hg Vg ght=>⟨_,rfl,aq ⟨⟨by decide,by decide⟩,_,rfl,_,rfl,_,rfl,aq ⟨_,_,_,_,rfl,r0,by lia,by lia,fun v3 g3 H3 s3 hg3 Yp qGB=>⟨zI (by show 3<=1000;decide),fun p hp=>q _ (.either g g3) _ ((s2.trans s3).trans (zF hp _)) (.either zC (hg.mono (aA.of (s3.trans (zF hp _)))) (hg3.mono (aA.new hp _))) ⟨Vg,Yp⟩ (by show ((1+max g.ht g3.ht:Nat):Int)<=hi;lia)⟩⟩⟩⟩⟩⟩
 refine⟨fun c H'=>H'=H,?_,?_⟩
 ·exact⟨_,rfl,rfl,_,rfl,fH (fun c=>rfl) (fun c=>⟨_,rfl,rfl,_,rfl,rfl⟩)⟩
 rintro c4 H rfl;refine fH (fun c=>?_) (fun c=>?_)
 ·exact⟨_,rfl,_,rfl,aq ⟨(by show (0:Int)<r;exact r0),zI (by show 2<=1000;decide),fun p hp=>q _ (.inn _) _ (zF hp _) (.inn zC) trivial (by show (1:Int)<=hi;lia)⟩⟩
 refine⟨fun c H'=>H'=H/\(c=true->0<(b:Int)),?_,?_⟩
 ·refine⟨_,rfl,rfl,_,rfl,fH (fun c=>⟨_,rfl,aq ⟨_,rfl,rfl,fun z=>of_decide_eq_true z⟩⟩) (fun c=>⟨rfl,fun z=>(by cases z)⟩)⟩
 rintro c5 H ⟨rfl,hc5⟩;refine fH (fun c=>?_) (fun c=>?_)
 ·have hh:=hc5 c;exact⟨_,rfl,_,rfl,aq ⟨(by show (0:Int)<(b:Int);exact hh),_,rfl,aq ⟨⟨by decide,by decide⟩,_,_,rfl,rfl,(by show (0:Int)<4;decide),zI (by show 3<=1000;decide),fun p hp=>q _ (.is _ _) _ (zF hp _) (.is zC) ⟨pW _ (by lia),rR _ hh⟩ (by show (1:Int)<=hi;lia)⟩⟩⟩
 refine⟨fun c H'=>H'=H/\(c=true->0<(b:Int)),?_,?_⟩
 ·refine⟨_,rfl,rfl,_,rfl,fH (fun c=>⟨_,rfl,aq ⟨_,rfl,rfl,fun z=>of_decide_eq_true z⟩⟩) (fun c=>⟨rfl,fun z=>(by cases z)⟩)⟩
 rintro c6 H ⟨rfl,hc6⟩;refine fH (fun c=>?_) (fun c=>?_)
 ·have hh:=hc6 c;exact⟨_,rfl,_,rfl,aq ⟨(by show (0:Int)<(b:Int);exact hh),_,rfl,aq ⟨⟨by decide,by decide⟩,_,_,rfl,rfl,(by show (0:Int)<5;decide),zI (by show 3<=1000;decide),fun p hp=>q _ (.under _ _) _ (zF hp _) (.under zC) ⟨pW _ (by lia),rR _ hh⟩ (by show (1:Int)<=hi;lia)⟩⟩⟩
 exact⟨zI (by show 1<=1000;decide),fun p hp=>q _ .yes _ (zF hp _) (.yes zC) trivial (by show (1:Int)<=hi;lia)⟩
theorem Hu{f:Addr}{fd:FuncData}:aM P w K mg base aW 0 f fd ["_law_number","_law_rooms_here","_law_boxes","_law_high"] (kW 0):=by
 have no:∀ vs H Q E,¬ kW 0 vs H Q E:=fun vs H Q E h=>by
  refine aJ fun G_ g_=>?_;obtain⟨m,r,hi,b,_,_,h1,h2,_⟩:=h;apply g_;clear g_ G_;lia
 exact⟨fun vs H Q E h=>absurd h (no vs H Q E),fun A outer s H args us vs Q E _ _ _ _ h=>absurd h (no vs H Q E)⟩
theorem all_guard{f:Addr}{fd:FuncData}(F:cY K "_law_guard" "_law_guard" iI f fd)(rB:Binds K fd ["_law_number","_law_rooms_here","_law_boxes","_law_high"] [])(qj:mg "_law_guard" = some (.ref f)):∀ n:Nat,aM P w K mg base aW n f fd ["_law_number","_law_rooms_here","_law_boxes","_law_high"] (kW n)
 | 0=>Hu
 | n+1=>Qe F ⟨all_guard F rB qj n,rB,F.kp,qj⟩
theorem Bj{ds:List Int}{k:Nat}(h:k<ds.length):uQ (ds.map V.int) ((k:Nat):Int)=some (.int (ds.getD k 0)):=by
 refine yQ ?_;rw[gf,gq h,lX,gq h];rfl
noncomputable def Z9(ds:List Int):Prop:=∀ k,k<ds.length->ds.getD k 0<=4
theorem Z9.snoc{ds:List Int}{v:Int}(h:Z9 ds)(hv:v<=4):Z9 (ds++[v]):=fun k hk=>by
 rw[lX]
 by_cases e:k<ds.length
 ·rw[Ck e,<-lX];exact h k e
 ·have:k=ds.length:=by
   rw[dW,gj]at hk;lia
  subst this;rw[Sy (bM _),Nat.sub_self];exact hv
noncomputable def DW(K:bO):Sp:=fun vs H Q _ => ∃(a:Addr)(ns:List Int)(m:Nat),vs=[.ref a,.int (m:Int)]/\aQ K H a (ns.map V.int)/\ns.length<=63/\1<=m/\m<=12 ∧
 ∀(p:Addr)(ds:List Int)(H':Hp),aG H H'->H p=none->H' p=some (.lst (ds.map V.int))->Tr.Good ds->Z9 ds->ds.length=m->Q (.ref p) H'
theorem jR:aH ["_law_script","_law_many","_law_depths_here","_law_k"] ["_law_script","_law_many"] (aB km):=eO
theorem MN{f gm:Addr}{fd dm:FuncData}(F:cY K "_law_depths" "_law_depths" km f fd)(aL:Dp P w K mg base aW 2 gm dm ["_law_script","_law_k","_law_salt"] (kJ K) "_law_mixed")
  (aY:mg "range" = none) (qBD:mg "min" = none):aM P w K mg base aW 3 f fd ["_law_script","_law_many"] (DW K):=by
 refine F.ok jR (fun vs H Q E h=>?_) (fun cdv A outer s H vs Q E hr h=>?_)
 ·refine aJ fun G_ g_=>?_;obtain⟨a,ns,m,rfl,_⟩:=h;apply g_;clear g_ G_;rfl
 refine aJ fun G_ g_=>?_;obtain⟨a,ns,m,rfl,hS,h63,m1,m12,q⟩:=h;apply g_;clear g_ G_
 refine⟨_,(zE (zK (i:=2) jR.nd rfl (Or.inl rfl) (yK (zA zB zD)))
  (zZ (bU PassesOwn.never rfl (sW rfl aY (zA zB (zA (pv 1) zD))) (yJ (i:=3) jR.nd rfl (Or.inl rfl))
  (zG (yI (dJ j7 pY pX yH (pv 2) (zA (yC yF zB (yC zY (pC aL hr (zA (pv 0) (zA (yC yF zB (pv 3)) (zA zB zD)))) (yC yF (zS (NT rfl) rfl qBD PyProof.Rows.boot_min (zA (yB yU (pv 2) (yC lC (pv 3) zB) (fun _ _=>rfl)) (zA zB zD))) zB))) zD)))))
  (zG (zO (pv 2))))),?_⟩
 refine⟨zI (by show 1<=1000;decide),fun pd hpd=>?_⟩;refine⟨fun σ' H'=>∃ dl:List Int,aG H H'/\H' pd=some (.lst (dl.map V.int))/\Tr.Good dl/\Z9 dl/\dl.length=m/\∃ o3:Option V,σ'=[some (.ref a),some (.int (m:Int)),some (.ref pd),o3],?_,?_⟩
 ·refine⟨_,rfl,1,(m:Int),rfl,⟨by decide,by decide,by lia,by lia⟩,?_⟩;refine cT (fun i σ' H'=>∃ dl:List Int,aG H H'/\H' pd=some (.lst (dl.map V.int))/\Tr.Good dl/\Z9 dl/\dl.length=i+1/\∃ o3:Option V,σ'=[some (.ref a),some (.int (m:Int)),some (.ref pd),o3])
   ⟨[0],zF hpd _,zC,.one,(fun k hk=>by (have:k=0:=by simpa using hk);subst this;decide),rfl,none,rfl⟩ ?_ ?_
  ·rintro i σ' H2 hi aP;refine aJ fun G_ g_=>?_;obtain⟨dl,s2,h2,good,low,hl,o3,rfl⟩:=aP;apply g_;clear g_ G_;have gn:=good.nonneg i (by lia)
   have hat:uQ (dl.map V.int) (1+(i:Int)-1)=some (.int (dl.getD i 0)):=by
    rw[show (1+(i:Int))-1=(i:Int) by lia];exact Bj (by lia)
   refine⟨_,rfl,.inl ⟨rfl,_,aQ.of h2⟩,_,rfl,_,rfl,aq ⟨a,ns,_,_,rfl,s2.seq hS,h63,⟨by lia,by lia⟩,⟨by decide,by decide⟩,fun y y0 y1=>?_⟩⟩
   have tp:0<=(if (3:Int)<dl.getD i 0 then 3 else dl.getD i 0)/\(if (3:Int)<dl.getD i 0 then 3 else dl.getD i 0)<=dl.getD i 0/\(if (3:Int)<dl.getD i 0 then 3 else dl.getD i 0)<=3:=by split <;> lia
   have hy0:=pW y (show (if (3:Int)<dl.getD i 0 then 3 else dl.getD i 0)+1≠0 by lia);have hy1:=rR y (show 0<(if (3:Int)<dl.getD i 0 then 3 else dl.getD i 0)+1 by lia);refine⟨_,rfl,_,rfl,aq (bY (aQ.of h2) hat ⟨_,_,rfl,aq (aq ⟨(by show (0:Int)<(if (3:Int)<dl.getD i 0 then 3 else dl.getD i 0)+1;lia),_,_,rfl,rfl,pd,_,_,rfl,rfl,h2,zV (by rw[bZ];lia),?_⟩)⟩)⟩;refine⟨dl++[1+y%((if (3:Int)<dl.getD i 0 then 3 else dl.getD i 0)+1)],cM hpd s2 _,?_,good.snoc (by lia) (by rw[hl,Nat.add_sub_cancel];lia),low.snoc (by lia),by simp [hl],_,rfl⟩;rw[zC,jd];rfl
  ·rintro σ' H2 aP;refine aJ fun G_ g_=>?_;obtain⟨dl,s2,h2,good,low,hl,o3,rfl⟩:=aP;apply g_;clear g_ G_;exact⟨dl,s2,h2,good,low,by lia,o3,rfl⟩
 rintro σ' H2 aP;refine aJ fun G_ g_=>?_;obtain⟨dl,s2,h2,good,low,hl,o3,rfl⟩:=aP;apply g_;clear g_ G_;exact⟨_,rfl,q pd dl H2 s2 hpd h2 good low hl⟩
noncomputable def Ji(K:bO):Sp:=fun vs H Q _ => ∃(a pd ps:Addr)(ns ds sz:List Int)(e:Int),vs=[.ref a,.ref pd,.ref ps,.int e]/\aQ K H a (ns.map V.int)/\ns.length<=63/\H pd=some (.lst (ds.map V.int))/\ds.length<=12/\jK H ps sz ∧
 ∀(t:Addr)(rv:List V)(rs:List Rm)(dis uH:List (List Dd))(H':Hp),aG H H'->H' t=some (.tup rv)->Ru.Np sz.length H' rv rs dis uH->aD rs=ds->Fit rs->Q (.ref t) H'
theorem aZ:aH ["_law_script","_law_depths_here","_law_sizes","_law_events","_law_rooms_here","_law_k","_law_number","_law_kind","_law_keeps","_law_lamp","_law_ins","_law_outs"] ["_law_script","_law_depths_here","_law_sizes","_law_events"] (aB BW):=eO
theorem QX{f gm gn gd gc:Addr}{fd dm dn dd dc:FuncData}(F:cY K "_law_rooms" "_law_rooms" BW f fd)(aL:Dp P w K mg base aW 3 gm dm ["_law_script","_law_k","_law_salt"] (kJ K) "_law_mixed")
  (dZ:Dp P w K mg base aW 3 gn dn ["_law_k","_law_number"] Av "_law_name")
  (jM:Dp P w K mg base aW 3 gd dd ["_law_script","_law_k","_law_salt","_law_sizes","_law_events"] (Aw K) "_law_deeds")
  (dU:Dp P w K mg base aW 3 gc dc ["_law_script","_law_k"] (Ax K) "_law_cell_at")
  (aY:mg "range" = none) (aR:mg "len" = none) (aU:mg "tuple" = none):aM P w K mg base aW 4 f fd ["_law_script","_law_depths_here","_law_sizes","_law_events"] (Ji K):=by
 refine F.ok aZ (fun vs H Q E h=>?_) (fun cdv A outer s H vs Q E hr h=>?_)
 ·refine aJ fun G_ g_=>?_;obtain⟨a,pd,ps,ns,ds,sz,e,rfl,_⟩:=h;apply g_;clear g_ G_;rfl
 refine aJ fun G_ g_=>?_;obtain⟨a,pd,ps,ns,ds,sz,e,rfl,hS,h63,hd,oh,hsz,q⟩:=h;apply g_;clear g_ G_
 refine⟨_,(zE (zK (i:=4) aZ.nd rfl (Or.inl rfl) (yK zD))
  (zZ (bU PassesOwn.never rfl (bT rfl aY (zA (zS zN rfl aR cA (zA (pv 1) zD)) zD)) (yJ (i:=5) aZ.nd rfl (Or.inl rfl))
  (zE (zK (i:=6) aZ.nd rfl (Or.inl rfl) (pC aL hr (zA (pv 0) (zA (yC yF zB (pv 5)) (zA zB zD)))))
  (zE (zK (i:=7) aZ.nd rfl (Or.inl rfl) zP)
  (zE (zK (i:=8) aZ.nd rfl (Or.inl rfl) zP)
  (zZ (yD (bc (PW.pt (pw_and (zL lR (yC yF (pv 5) zB) (zS zN rfl aR cA (zA (pv 1) zD)) (zR _)) (yP (zL jD (yB yU (pv 1) (yC yF (pv 5) zB) (fun _ _=>rfl)) (yB yU (pv 1) (pv 5) (fun _ _=>rfl)) (zR _))))))
  (zE (zK (i:=7) aZ.nd rfl (Or.inl rfl) (yB yU (yK (zA zP (zA zP (zA zP zD)))) (yC zY (pv 6) zB) (fun _ _=>rfl)))
  (zG (zK (i:=8) aZ.nd rfl (Or.inl rfl) (yB yU (yK (zA zP (zA zP (zA zP zD)))) (yC zY (yC yL (pv 6) zB) zB) (fun _ _=>rfl)))))
  zT)
  (zZ (yD (bc (PW.pt (pw_and (zL yG (pv 7) zP (zR _)) (yP (zL yG (pv 8) zP (zR _))))))
  (zG (zK (i:=8) aZ.nd rfl (Or.inl rfl) zP))
  zT)
  (zE (zK (i:=9) aZ.nd rfl (Or.inl rfl) zP)
  (zZ (yD (zL yG (yC zY (yC yL (pv 6) zB) zB) zB (zR _))
  (zG (zK (i:=9) aZ.nd rfl (Or.inl rfl) (pC dZ hr (zA (yC zY (yC yL (pv 6) zB) zB) (zA (yC yL (pv 6) zB) zD)))))
  zT)
  (zE (zK (i:=10) aZ.nd rfl (Or.inl rfl) (pC jM hr (zA (pv 0) (zA (yC yF zB (pv 5)) (zA zB (zA (pv 2) (zA (pv 3) zD)))))))
  (zE (zK (i:=11) aZ.nd rfl (Or.inl rfl) (pC jM hr (zA (pv 0) (zA (yC yF zB (pv 5)) (zA zB (zA (pv 2) (zA (pv 3) zD)))))))
  (zG (yI (dJ j7 pY pX yH (pv 4) (zA (zW (zA (pC dZ hr (zA (pv 5) (zA (yC zY (pC dU hr (zA (pv 0) (zA zB zD))) zB) zD))) (zA (pv 7) (zA (yB yU (pv 1) (pv 5) (fun _ _=>rfl)) (zA (pv 8) (zA (pv 9) (zA (pv 10) (zA (pv 11) zD)))))))) zD))))))))))))))
  (zG (zO (yA zX rfl aU lV (zA (pv 4) zD)))))),?_⟩
 have lds:(ds.map V.int).length=ds.length:=bZ _;refine⟨Nat.zero_le _,fun pr hpr=>?_⟩;have s1:=zF hpr (.lst []);refine⟨fun σ' H'=>∃(vs:List V)(rs:List Rm)(dis uH:List (List Dd)),aG H H'/\H' pr=some (.lst vs)/\Ru.Np sz.length H' vs rs dis uH/\aD rs=ds/\Fit rs/\∃ o5 o6 o7 o8 o9 Ef Ed:Option V,σ'=[some (.ref a),some (.ref pd),some (.ref ps),some (.int e),some (.ref pr),o5,o6,o7,o8,o9,Ef,Ed],?_,?_⟩
 ·refine⟨_,rfl,iZ rfl (.inl (aQ.of (s1 _ _ hd))) ⟨_,rfl,by lia,by rw[lds];lia,?_⟩⟩
  refine cT (fun i σ' H'=>∃(vs:List V)(rs:List Rm)(dis uH:List (List Dd)),aG H H'/\H' pr=some (.lst vs)/\Ru.Np sz.length H' vs rs dis uH/\aD rs=ds.take i/\rs.length=i/\(∀(k:Nat)(x:Rm),rs[k]? = some x->if k+1<ds.length/\ds.getD k 0<ds.getD (k+1) 0 then (x.kind = "one" ∨ x.kind = "all") else x.kind = "plain") ∧
   ∃ o5 o6 o7 o8 o9 Ef Ed:Option V,σ'=[some (.ref a),some (.ref pd),some (.ref ps),some (.int e),some (.ref pr),o5,o6,o7,o8,o9,Ef,Ed]) ⟨[],[],[],[],s1,zC,Ru.Np.nil _,rfl,rfl,(fun k x h=>by simp at h),none,none,none,none,none,none,none,rfl⟩ ?_ ?_
  ·rintro i σ' H3 hi aP;refine aJ fun G_ g_=>?_;obtain⟨vs,rs,dis,uH,s3,h3,hI,Br,hlen,hkd,o5,o6,o7,o8,o9,Ef,Ed,rfl⟩:=aP;apply g_;clear g_ G_
   have hi':i<ds.length:=by
    simp only[List.length_map,Int.toNat_natCast]at hi;exact hi
   have hd3:=s3 _ _ hd
   have hat:uQ (ds.map V.int) (0+(i:Int))=some (.int (ds.getD i 0)):=by
    rw[Int.zero_add];exact Bj hi'
   refine⟨_,rfl,_,rfl,aq ⟨a,ns,_,_,rfl,s3.seq hS,h63,⟨by lia,by lia⟩,⟨by decide,by decide⟩,fun x x0 x1=>?_⟩⟩;refine⟨fun σ' H4=>aG H3 H4/\∃ kd kp:Str,(if i+1<ds.length/\ds.getD i 0<ds.getD (i+1) 0 then (kd = "one" ∨ kd = "all") else kd = "plain")/\σ'=[some (.ref a),some (.ref pd),some (.ref ps),some (.int e),some (.ref pr),some (.int (0+(i:Int))),some (.int x),some (.str kd),some (.str kp),o9,Ef,Ed],?_,?_⟩
   ·refine⟨fun c H4=>H4=H3/\c=decide (i+1<ds.length/\ds.getD i 0<ds.getD (i+1) 0),?_,?_⟩
    ·refine⟨_,rfl,aq ⟨_,rfl,iZ rfl (.inl (aQ.of hd3)) (aq ⟨_,rfl,?_⟩)⟩⟩;refine oR (fun c=>?_) (fun c=>⟨rfl,?_⟩)
     ·have c':(0:Int)+(i:Int)+1<(((ds.map V.int).length:Nat):Int):=of_decide_eq_true c;rw[lds]at c'
      have wM:uQ (ds.map V.int) (0+(i:Int)+1)=some (.int (ds.getD (i+1) 0)):=by
       rw[show (0:Int)+(i:Int)+1=((i+1:Nat):Int) by lia];exact Bj (by lia)
      refine⟨_,rfl,_,rfl,aq (bY (aQ.of hd3) wM ⟨_,rfl,_,rfl,bY (aQ.of hd3) hat (aq ⟨_,rfl,rfl,?_⟩)⟩)⟩
      have e:i+1<ds.length:=by lia
      simp [e]
     ·have c':¬ (0:Int)+(i:Int)+1<(((ds.map V.int).length:Nat):Int):=fun z=>c (decide_eq_true z);rw[lds]at c'
      have e:¬ i+1<ds.length:=by lia
      simp [e]
    rintro c H4 ⟨rfl,hc⟩;refine oR (fun c1=>?_) (fun c1=>?_)
    ·rw[c1]at hc;have hc':=of_decide_eq_true hc.symm;refine aJ fun G_ g_=>?_;obtain⟨kd,hkm,hk1⟩:=v9 (zs:=[("one" : Str),"one","all"]) (i:=x%3) (by lia) (by show _<(3:Int);lia);obtain⟨kp,hpm,hk2⟩:=v9 (zs:=[("" : Str),"near","deep"]) (i:=x/3%3) (by lia) (by show _<(3:Int);lia);apply g_;clear g_ G_;refine⟨zI (by show 3<=1000;decide),fun p5 O6=>?_⟩;have s5:=zF O6 (.lst [V.str "one",V.str "one",V.str "all"]);refine⟨_,rfl,aq ⟨(by show (0:Int)<3;decide),bY (aQ.of zC) hk1 ?_⟩⟩;refine⟨zI (by show 3<=1000;decide),fun p6 hp6=>?_⟩;have s6:=s5.trans (zF hp6 (.lst [V.str "",V.str "near",V.str "deep"]))
     refine⟨_,rfl,_,_,rfl,rfl,⟨by decide,by decide⟩,_,_,rfl,rfl,(by show (0:Int)<3;decide),p6,_,_,_,rfl,rfl,aQ.of zC,hk2,s6,kd,kp,(by
      rw[if_pos hc'];simp only[List.mem_cons,List.not_mem_nil,or_false]at hkm;rcases hkm with h | h | h
      ·exact .inl h
      ·exact .inl h
      ·exact .inr h),rfl⟩
    ·rw[Bool.eq_false_iff.mpr c1]at hc;have hc':=of_decide_eq_false hc.symm;exact⟨aG.refl _,_,_,(by rw[if_neg hc']),rfl⟩
   rintro σ5 H5 aP;refine aJ fun G_ g_=>?_;obtain⟨s4,kd,kp0,qG2,rfl⟩:=aP;apply g_;clear g_ G_;refine⟨fun σ' H6=>H6=H5/\∃ kp:Str,σ'=[some (.ref a),some (.ref pd),some (.ref ps),some (.int e),some (.ref pr),some (.int (0+(i:Int))),some (.int x),some (.str kd),some (.str kp),o9,Ef,Ed],?_,?_⟩
   ·refine⟨fun c H6=>H6=H5,?_,?_⟩
    ·exact⟨_,rfl,rfl,_,rfl,fH (fun c=>⟨_,rfl,rfl,_,rfl,rfl⟩) (fun c=>rfl)⟩
    rintro c H6 rfl;exact fH (fun c=>⟨rfl,_,rfl⟩) (fun c=>⟨rfl,_,rfl⟩)
   rintro σ6 H6 aP;refine aJ fun G_ g_=>?_;obtain⟨rfl,kp,rfl⟩:=aP;apply g_;clear g_ G_;refine⟨fun σ' H7=>aG H6 H7/\∃ lp:Str,σ'=[some (.ref a),some (.ref pd),some (.ref ps),some (.int e),some (.ref pr),some (.int (0+(i:Int))),some (.int x),some (.str kd),some (.str kp),some (.str lp),Ef,Ed],?_,?_⟩
   ·refine⟨_,rfl,aq ⟨⟨by decide,by decide⟩,_,_,rfl,rfl,(by show (0:Int)<3;decide),rfl,_,rfl,fH (fun c=>?_) (fun c=>⟨aG.refl _,_,rfl⟩)⟩⟩;exact⟨_,rfl,aq ⟨⟨by decide,by decide⟩,_,_,rfl,rfl,(by show (0:Int)<3;decide),_,rfl,aq ⟨⟨by decide,by decide⟩,_,_,rfl,fun z H7 s7=>⟨s7,z,rfl⟩⟩⟩⟩
   rintro σ7 H7 aP;refine aJ fun G_ g_=>?_;obtain⟨s7,lp,rfl⟩:=aP;apply g_;clear g_ G_;have s37:=(s3.trans s4).trans s7;refine⟨_,rfl,_,rfl,aq ⟨_,rfl,_,rfl,a,ps,ns,sz,_,_,_,rfl,s37.seq hS,h63,⟨by lia,by lia⟩,⟨by decide,by decide⟩,hsz.mono s37,fun vi di H8 s8 hdi oki ldi=>?_⟩⟩;have s38:=s37.trans s8;refine⟨_,rfl,_,rfl,aq ⟨_,rfl,_,rfl,a,ps,ns,sz,_,_,_,rfl,s38.seq hS,h63,⟨by lia,by lia⟩,⟨by decide,by decide⟩,hsz.mono s38,fun vo dO H9 s9 hdo oko ldo=>?_⟩⟩;have ZL:=s38.trans s9;have h9:=((s4.trans s7).trans (s8.trans s9)) _ _ h3;refine⟨_,rfl,.inl ⟨rfl,_,aQ.of h9⟩,_,rfl,_,rfl,a,ns,_,rfl,ZL.seq hS,h63,fun cv=>?_⟩;refine (aq ⟨(by show (0:Int)<997;decide),_,_,rfl,fun y SJ Dj=>?_⟩);have t10:=((s4.trans s7).trans (s8.trans s9)).trans Dj;have h10:=t10 _ _ h3;refine⟨_,rfl,_,rfl,_,rfl,bY (aQ.of (t10 _ _ hd3)) hat ⟨_,rfl,_,rfl,_,rfl,_,rfl,zI (by show 7<=1000;decide),fun p7 hp7=>?_⟩⟩;have u3:=zF hp7 (.tup [.str y,.str kd,.int (ds.getD i 0),.str kp,.str lp,vi,vo]);have h7:=u3 _ _ h10;have lv:=hI.inn.length;have kl:=aA.lst h7 (.lst (vs++[.ref p7]));refine⟨pr,_,_,rfl,rfl,h7,zV (by lia),vs++[.ref p7],rs++[⟨y,kd,ds.getD i 0,kp,lp,vi,vo⟩],dis++[di],uH++[dO],cM hpr ((s3.trans t10).trans u3) _,zC,Ru.Np.snoc (hI.mono ((aA.of (t10.trans u3)).trans kl)) (r:=⟨y,kd,ds.getD i 0,kp,lp,vi,vo⟩) ⟨p7,rfl,kl _ _ zC⟩ (hdi.mono ((aA.of ((s9.trans Dj).trans u3)).trans kl)) (hdo.mono ((aA.of (Dj.trans u3)).trans kl)) ⟨oki,ldi⟩ ⟨oko,ldo⟩,?_,by simp [hlen],fun k x hx=>?_,_,_,_,_,_,_,_,rfl⟩
   ·unfold aD at Br ⊢;rw[jd,Br,j8,gq hi',lX,gq hi'];rfl
   ·by_cases hk:k<rs.length
    ·rw[Ck hk]at hx;exact hkd k x hx
    ·have hk':k=rs.length:=by
      have:=(lQ.mp hx).1;simp only[List.length_append,List.length_singleton]at this;lia
     subst hk';rw[Sy (bM _)]at hx;simp at hx;subst hx;rw[hlen];exact qG2
  ·rintro σ' H3 aP;refine aJ fun G_ g_=>?_;obtain⟨vs,rs,dis,uH,s3,h3,hI,Br,hlen,hkd,r⟩:=aP;apply g_;clear g_ G_
   have e:(((ds.map V.int).length:Nat):Int).toNat=ds.length:=by simp
   rw[e]at Br hlen;rw[xK (bM _)]at Br;refine⟨vs,rs,dis,uH,s3,h3,hI,Br,fun k x hx=>?_,r⟩;rw[Br,hlen];exact hkd k x hx
 rintro σ' H3 aP;refine aJ fun G_ g_=>?_;obtain⟨vs,rs,dis,uH,s3,h3,hI,Br,hfit,o5,o6,o7,o8,o9,Ef,Ed,rfl⟩:=aP;apply g_;clear g_ G_;refine⟨_,rfl,pr,_,rfl,.inl ⟨aQ.of h3,fun t ht=>?_⟩⟩;exact q t vs rs dis uH _ (s3.trans (zF ht _)) zC (hI.mono (aA.new ht _)) Br hfit
end
end uz
namespace uz
open PySem L2 pQ rG CN JQ GP
open Ru (Wy Dx xF rH)
noncomputable def gV:Option Int->V
 | none=>.non
 | some j=>.int j
noncomputable def JD(n:Nat)(wy:Str)(g:Option Int):Prop:=(wy=("stay" : Str)/\g=none)∨((wy=("to" : Str)∨wy=("back" : Str))/\∃ j:Int,g=some j/\0<=j/\j<(n:Int))
noncomputable def Ss(n nb:Nat)(d:Dx):Prop:=d.room<n/\d.way.gl<n/\d.g.ok nb/\d.g.ht<=3/\(∀ x∈d.dd,x.ok nb)/\d.dd.length<=8
theorem JD.wy{n:Nat}{w:Str}{g:Option Int}(h:JD n w g)(n0:0<n):∃ y:Wy,y.tx=w/\y.gv=gV g/\y.gl<n:=by
 rcases h with ⟨rfl,rfl⟩ | ⟨h,j,rfl,j0,j1⟩
 ·exact⟨.stay,rfl,rfl,n0⟩
 ·have e:((j.toNat:Nat):Int)=j:=Int.toNat_of_nonneg j0;rcases h with rfl | rfl
  ·exact⟨.to j.toNat,rfl,by show V.int ((j.toNat:Nat):Int)=V.int j;rw[e],by show j.toNat<n;lia⟩
  ·exact⟨.back j.toNat,rfl,by show V.int ((j.toNat:Nat):Int)=V.int j;rw[e],by show j.toNat<n;lia⟩
noncomputable def Jm(K:bO):Sp:=fun vs H Q _ => ∃(a t ps:Addr)(ns sz:List Int)(rs:List Rm)(m:Nat)(e:Int),vs=[.ref a,.int (m:Int),.ref t,.ref ps,.int e]/\aQ K H a (ns.map V.int)/\ns.length<=63/\m<=12/\cW H t rs/\1<=rs.length/\rs.length<=12/\jK H ps sz/\0<=e ∧
 ∀(p:Addr)(dv:List V)(ds:List Dx)(H':Hp),aG H H'->H' p=some (.tup dv)->Al (xF H') dv ds->(∀ d∈ds,Ss rs.length sz.length d)->ds.length<=12->Q (.ref p) H'
section
variable{P:Program}{w:World}{K:bO}{mg:Str->Option Value}{base:Heap}
theorem aa:aH ["_law_script","_law_many","_law_rooms_here","_law_sizes","_law_events","_law_doors_here","_law_k","_law_number","_law_goal","_law_way","_law_keepers","_law_guard_here","_law_deeds_here"] ["_law_script","_law_many","_law_rooms_here","_law_sizes","_law_events"] (aB jj):=eO
theorem Qf{f gm gg gd:Addr}{fd dm dg dd:FuncData}(F:cY K "_law_doors" "_law_doors" jj f fd)(aL:Dp P w K mg base aW 3 gm dm ["_law_script","_law_k","_law_salt"] (kJ K) "_law_mixed")
  (cu:Dp P w K mg base aW 3 gg dg ["_law_number","_law_rooms_here","_law_boxes","_law_high"] (kW 3) "_law_guard")
  (jM:Dp P w K mg base aW 3 gd dd ["_law_script","_law_k","_law_salt","_law_sizes","_law_events"] (Aw K) "_law_deeds")
  (aY:mg "range" = none) (aR:mg "len" = none) (aU:mg "tuple" = none) (Qt:mg "int" = none):aM P w K mg base aW 4 f fd ["_law_script","_law_many","_law_rooms_here","_law_sizes","_law_events"] (Jm K):=by
 refine F.ok aa (fun vs H Q E h=>?_) (fun cdv A outer s H vs Q E hr h=>?_)
 ·refine aJ fun G_ g_=>?_;obtain⟨a,t,ps,ns,sz,rs,m,e,rfl,_⟩:=h;apply g_;clear g_ G_;rfl
 refine aJ fun G_ g_=>?_;obtain⟨a,t,ps,ns,sz,rs,m,e,rfl,hS,h63,m12,hR,l1,TQ,hsz,e0,q⟩:=h;apply g_;clear g_ G_
 refine⟨_,(zE (zK (i:=5) aa.nd rfl (Or.inl rfl) (yK zD))
  (zZ (bU PassesOwn.never rfl (bT rfl aY (zA (yC fW (pv 1) (yA Nf rfl Qt PyProof.Rows.boot_int (zA (nj jD (pv 4) zB (zR _)) zD))) zD)) (yJ (i:=6) aa.nd rfl (Or.inl rfl))
  (zE (zK (i:=7) aa.nd rfl (Or.inl rfl) (pC aL hr (zA (pv 0) (zA (yC yF zB (pv 6)) (zA zB zD)))))
  (zE (zK (i:=8) aa.nd rfl (Or.inl rfl) (yC zY (yC yL (pv 7) zB) (zS zN rfl aR cA (zA (pv 2) zD))))
  (zE (zK (i:=9) aa.nd rfl (Or.inl rfl) (yB yU (yK (zA zP (zA zP (zA zP (zA zP (zA zP zD)))))) (yC zY (pv 7) zB) (fun _ _=>rfl)))
  (zE (qX (i:=10) (aX:=[(2,"_law_rooms_here")]) rfl aa.nd rfl (Or.inl rfl) (show bD (aB jj) ["_law_script","_law_many","_law_rooms_here","_law_sizes","_law_events","_law_doors_here","_law_k","_law_number","_law_goal","_law_way","_law_keepers","_law_guard_here","_law_deeds_here"] _ _ _ from xN) (bT rfl aY (zA (zS zN rfl aR cA (zA (pv 2) zD)) zD)) (fun _ _ _ _ _ _=>fG (zL ym (yB (r:=j9 K) zH (yB (r:=j9 K) zH (pv 1) (pv 0) (fun _ _=>rfl)) zB (fun _ _=>rfl)) zP (zR _))) (fun _ _ _ _ _ _=>(pv 0)))
  (zZ (yD (bc (PW.pt (pw_and (zL yG (pv 9) zP (zR _)) (yP (zL yG (zS zN rfl aR cA (zA (pv 10) zD)) zB (zR _))))))
  (zG (zK (i:=9) aa.nd rfl (Or.inl rfl) zP))
  zT)
  (zZ (yD (zL yG (pv 9) zP (zR _))
  (zG (zK (i:=8) aa.nd rfl (Or.inl rfl) (yB yU (pv 10) (yC zY (pv 8) (zS zN rfl aR cA (zA (pv 10) zD))) (fun _ _=>rfl))))
  zT)
  (zZ (yD (zL yG (pv 9) zP (zR _))
  (zG (zK (i:=8) aa.nd rfl (Or.inl rfl) bf))
  zT)
  (zE (zK (i:=11) aa.nd rfl (Or.inl rfl) (zW (zA zP zD)))
  (zZ (yD (zL yG (yC zY (yC yL (pv 7) zB) zB) zB (zR _))
  (zG (zK (i:=11) aa.nd rfl (Or.inl rfl) (pC cu hr (zA (pC aL hr (zA (pv 0) (zA (yC yF zB (pv 6)) (zA zB zD)))) (zA (zS zN rfl aR cA (zA (pv 2) zD)) (zA (zS zN rfl aR cA (zA (pv 3) zD)) (zA zB zD)))))))
  zT)
  (zE (zK (i:=12) aa.nd rfl (Or.inl rfl) (pC jM hr (zA (pv 0) (zA (yC yF zB (pv 6)) (zA zB (zA (pv 3) (zA (pv 4) zD)))))))
  (zG (yI (dJ j7 pY pX yH (pv 5) (zA (zW (zA (yC zY (pC aL hr (zA (pv 0) (zA (yC yF zB (pv 6)) (zA zB zD)))) (zS zN rfl aR cA (zA (pv 2) zD))) (zA (yC zY (yC zY (yC yL (pv 7) zB) zB) (pv 4)) (zA (pv 11) (zA (pv 12) (zA (pv 9) (zA (pv 8) zD))))))) zD)))))))))))))))
  (zG (zO (yA zX rfl aU lV (zA (pv 5) zD)))))),?_⟩
 refine aJ fun G_ g_=>?_;obtain⟨rv,htr,hrs⟩:=hR;apply g_;clear g_ G_;have VR:=hrs.length;refine⟨Nat.zero_le _,fun pr hpr=>?_⟩;have s1:=zF hpr (.lst []);refine⟨fun σ' H'=>∃(vs:List V)(ds:List Dx),aG H H'/\H' pr=some (.lst vs)/\Al (xF H') vs ds/\(∀ d∈ds,Ss rs.length sz.length d)/\ds.length<=12/\∃ o6 o7 o8 o9 Ef Ed VJ:Option V,σ'=[some (.ref a),some (.int (m:Int)),some (.ref t),some (.ref ps),some (.int e),some (.ref pr),o6,o7,o8,o9,Ef,Ed,VJ],?_,?_⟩
 ·have hN:((m:Int)*(if decide (0<e)=true then 1 else 0)).toNat<=m/\(0<((m:Int)*(if decide (0<e)=true then 1 else 0)).toNat->0<e)/\((m:Int)*(if decide (0<e)=true then 1 else 0))<=12/\0<=((m:Int)*(if decide (0<e)=true then 1 else 0)):=by
   by_cases c:0<e
   ·rw[if_pos (decide_eq_true c)];exact⟨by lia,fun _=>c,by lia,by lia⟩
   ·rw[if_neg (by rw[decide_eq_false c];exact pZ)];exact⟨by lia,fun z=>by lia,by lia,by lia⟩
  refine⟨_,rfl,_,rfl,aq (.inr ⟨_,rfl,aq ⟨qi (by lia) (by lia),_,rfl,by lia,?_,?_⟩⟩)⟩
  ·exact Int.lt_of_le_of_lt hN.2.2.1 (by decide)
  refine cT (fun i σ' H'=>∃(vs:List V)(ds:List Dx),aG H H'/\H' pr=some (.lst vs)/\Al (xF H') vs ds/\(∀ d∈ds,Ss rs.length sz.length d)/\ds.length=i/\∃ o6 o7 o8 o9 Ef Ed VJ:Option V,σ'=[some (.ref a),some (.int (m:Int)),some (.ref t),some (.ref ps),some (.int e),some (.ref pr),o6,o7,o8,o9,Ef,Ed,VJ])
   ⟨[],[],s1,zC,.nil,(fun d h=>by cases h),rfl,none,none,none,none,none,none,none,rfl⟩ ?_ (fun σ' H' ⟨vs,ds,h1,h2,h3,h4,h5,h6⟩=>⟨vs,ds,h1,h2,h3,h4,by have:=hN.1;lia,h6⟩)
  rintro i σ' H3 hi aP;refine aJ fun G_ g_=>?_;obtain⟨vs,ds,s3,h3,hA,hfit,hlen,o6,o7,o8,o9,Ef,Ed,VJ,rfl⟩:=aP;apply g_;clear g_ G_
  have him:i<12:=by
   have:=hN.1;lia
  have ep:0<e:=hN.2.1 (by lia);refine⟨_,rfl,_,rfl,aq ⟨a,ns,_,_,rfl,s3.seq hS,h63,⟨by lia,by lia⟩,⟨by decide,by decide⟩,fun x x0 x1=>?_⟩⟩
  have lp:(0:Int)<((rv.length:Nat):Int):=by lia
  have g00:=pW (x/15) (show ((rv.length:Nat):Int)≠0 by lia);have g01:=rR (x/15) lp;refine⟨_,rfl,aq ⟨⟨by decide,by decide⟩,_,rfl,iZ rfl (.inr (aK.of (s3 _ _ htr))) (aq ⟨lp,?_⟩)⟩⟩;refine aJ fun G_ g_=>?_;obtain⟨w0,hw0,qG5⟩:=v9 (zs:=[("to" : Str),"to","back","back","stay"]) (i:=x%5) (by lia) (by show _<(5:Int);lia);apply g_;clear g_ G_;refine⟨zI (by show 5<=1000;decide),fun p5 O6=>⟨_,rfl,aq ⟨(by show (0:Int)<5;decide),bY (aQ.of zC) qG5 ?_⟩⟩⟩;have s5:=zF O6 (.lst [V.str "to",V.str "to",V.str "back",V.str "back",V.str "stay"]);generalize Wd:upd H3 p5 (.lst [V.str "to",V.str "to",V.str "back",V.str "back",V.str "stay"])=H5 at s5 ⊢;have XM:=s3.trans s5;refine⟨_,rfl,iZ rfl (.inr (aK.of (XM _ _ htr))) ⟨_,rfl,by lia,by lia,?_⟩⟩;refine ir (fun i' acc H'=>H'=H5/\∃ js:List Nat,acc=aC js/\js.length<=i'/\(∀ j∈js,j<rs.length)) ⟨rfl,[],rfl,bM _,fun j z=>by cases z⟩ (fun i' acc H' hi2 ⟨e1,js,e2,e3,e4⟩=>?_) (fun acc H' ⟨e1,js,e2,e3,e4⟩ p2 hp2=>?_)
  ·subst e1 e2
   have hj:i'<rs.length:=by lia
   refine aJ fun G_ g_=>?_;obtain⟨v2,hv2,a2,rfl,ha2⟩:=hrs.get (gq hj);apply g_;clear g_ G_
   have wM:uQ rv (0+(i':Int))=some (.ref a2):=by
    rw[Int.zero_add];exact yQ hv2
   refine⟨_,rfl,_,rfl,aF (aK.of (XM _ _ htr)) wM (aF (aK.of (XM _ _ ha2)) rfl ⟨rfl,_,rfl,?_⟩)⟩;refine fH (fun c=>?_) (fun c=>⟨rfl,js,rfl,by lia,e4⟩);refine⟨_,rfl,zV (by rw[zU];lia),rfl,js++[i'],?_,by simp;lia,fun j z=>?_⟩
   ·rw[<-iJ,Int.zero_add]
   ·rcases cX.mp z with z | z
    ·exact e4 j z
    ·rw[cB.mp z];exact hj
  subst e1 e2;have s6:=zF hp2 (.lst (aC js));have h6:upd H' p2 (.lst (aC js)) p2=some (.lst (aC js)):=zC;generalize hH6:upd H' p2 (.lst (aC js))=H6 at s6 h6 ⊢;have s36:=XM.trans s6;have ln:=zU js;refine⟨fun σ' H'=>H'=H6/\∃ wy:Str,(wy = "to" ∨ wy = "back" ∨ wy = "stay")/\(wy = "back" -> js≠[])/\σ'=[some (.ref a),some (.int (m:Int)),some (.ref t),some (.ref ps),some (.int e),some (.ref pr),some (.int (0+(i:Int))),some (.int x),some (.int (x/15%((rv.length:Nat):Int))),some (.str wy),some (.ref p2),Ed,VJ],?_,?_⟩
  ·refine⟨fun c H'=>H'=H6/\(c=false->w0 = "back" -> js≠[]),?_,?_⟩
   ·refine⟨_,rfl,rfl,_,rfl,fH (fun c=>?_) (fun c=>⟨rfl,fun _ z=>?_⟩)⟩
    ·exact⟨_,rfl,p2,_,rfl,.inl (aQ.of h6),rfl,_,rfl,rfl,fun z _ z2=>by
      subst z2
      exact of_decide_eq_false z rfl⟩
    ·exact absurd (by rw[z]) (of_decide_eq_false c)
   rintro c H' ⟨rfl,hc⟩;refine fH (fun c=>?_) (fun c=>?_)
   ·exact⟨rfl,_,.inl rfl,fun z=>absurd z (by decide),rfl⟩
   ·refine⟨rfl,w0,?_,hc c,rfl⟩;simp only[List.mem_cons,List.not_mem_nil,or_false]at hw0;rcases hw0 with h | h | h | h | h
    ·exact .inl h
    ·exact .inl h
    ·exact .inr (.inl h)
    ·exact .inr (.inl h)
    ·exact .inr (.inr h)
  rintro σ7 H7 aP;refine aJ fun G_ g_=>?_;obtain⟨rfl,wy,hwy,hne,rfl⟩:=aP;apply g_;clear g_ G_;refine⟨fun σ' H'=>H'=H7/\∃ g:Int,0<=g/\g<(rs.length:Int)/\σ'=[some (.ref a),some (.int (m:Int)),some (.ref t),some (.ref ps),some (.int e),some (.ref pr),some (.int (0+(i:Int))),some (.int x),some (.int g),some (.str wy),some (.ref p2),Ed,VJ],?_,?_⟩
  ·refine⟨_,rfl,rfl,_,rfl,fH (fun c=>?_) (fun c=>⟨rfl,_,g00,by lia,rfl⟩)⟩;have c':V.str wy=V.str "back" := of_decide_eq_true c
   have wb:wy = "back" := by injection c'
   have ljs:0<js.length:=List.length_pos_iff.mpr (hne wb);refine aJ fun G_ g_=>?_
   obtain⟨pk,hpm,Wc⟩:=El (os:=js) (i:=(x/15%((rv.length:Nat):Int))%(((aC js).length:Nat):Int)) (pW _ (by lia)) (by
     have:=rR (x/15%((rv.length:Nat):Int)) (show (0:Int)<(((aC js).length:Nat):Int) by lia)
     lia)
   apply g_;clear g_ G_;refine⟨_,rfl,_,rfl,_,rfl,iZ rfl (.inl (aQ.of h6)) (aq ⟨(by show (0:Int)<(((aC js).length:Nat):Int);lia),bY (aQ.of h6) Wc ⟨rfl,_,by lia,?_,rfl⟩⟩)⟩;have:=e4 pk hpm;lia
  rintro σ8 H8 aP;refine aJ fun G_ g_=>?_;obtain⟨rfl,g,g0,g1,rfl⟩:=aP;apply g_;clear g_ G_;refine⟨fun σ' H'=>H'=H8/\∃ gv:Option Int,JD rs.length wy gv/\σ'=[some (.ref a),some (.int (m:Int)),some (.ref t),some (.ref ps),some (.int e),some (.ref pr),some (.int (0+(i:Int))),some (.int x),some (gV gv),some (.str wy),some (.ref p2),Ed,VJ],?_,?_⟩
  ·refine⟨_,rfl,rfl,_,rfl,fH (fun c=>?_) (fun c=>?_)⟩
   ·have c':V.str wy=V.str "stay" := of_decide_eq_true c;exact⟨rfl,none,.inl ⟨by injection c',rfl⟩,rfl⟩
   ·refine⟨rfl,some g,.inr ⟨?_,g,rfl,g0,g1⟩,rfl⟩;rcases hwy with h | h | h
    ·exact .inl h
    ·exact .inr h
    ·exact absurd (by rw[h]) (of_decide_eq_false c)
  rintro σ9 H9 aP;refine aJ fun G_ g_=>?_;obtain⟨rfl,gv,hgv,rfl⟩:=aP;apply g_;clear g_ G_;refine⟨zI (by show 1<=1000;decide),fun p9 hp9=>?_⟩;have s9:=zF hp9 (.tup [V.str "yes"]);have g9:jc (upd H9 p9 (.tup [V.str "yes"])) (.ref p9) .yes:=.yes zC;generalize hH10:upd H9 p9 (.tup [V.str "yes"])=SJ at s9 g9 ⊢;have ZL:=s36.trans s9;refine⟨fun σ' H'=>aG SJ H'/\∃(gd:V)(g:Gd),jc H' gd g/\g.ok sz.length/\g.ht<=3/\σ'=[some (.ref a),some (.int (m:Int)),some (.ref t),some (.ref ps),some (.int e),some (.ref pr),some (.int (0+(i:Int))),some (.int x),some (gV gv),some (.str wy),some (.ref p2),some gd,VJ],?_,?_⟩
  ·refine⟨_,rfl,aq ⟨⟨by decide,by decide⟩,_,_,rfl,rfl,(by show (0:Int)<2;decide),rfl,_,rfl,fH (fun c=>?_) (fun c=>⟨aG.refl _,_,_,g9,trivial,(by show 1<=3;decide),rfl⟩)⟩⟩;refine⟨_,rfl,_,rfl,aq ⟨a,ns,_,_,rfl,ZL.seq hS,h63,⟨by lia,by lia⟩,⟨by decide,by decide⟩,fun y y0 y1=>?_⟩⟩;exact⟨_,rfl,iZ rfl (.inr (aK.of (ZL _ _ htr))) ⟨_,rfl,iZ rfl (.inl (aQ.of (hsz.mono ZL).1)) ⟨_,_,_,sz.length,(by rw[bZ];rfl),lp,by decide,by decide,fun v g H' s' hg Vg ght=>⟨s',v,g,hg,Vg,(by lia),rfl⟩⟩⟩⟩
  rintro σ10 Wq aP;refine aJ fun G_ g_=>?_;obtain⟨Dj,gd,gg,hgd,Vg,ght,rfl⟩:=aP;apply g_;clear g_ G_;have qAU:=ZL.trans Dj;refine⟨_,rfl,_,rfl,aq ⟨_,rfl,_,rfl,a,ps,ns,sz,_,_,_,rfl,qAU.seq hS,h63,⟨by lia,by lia⟩,⟨by decide,by decide⟩,hsz.mono qAU,fun vd dd ZD s12 hdd okd ldd=>?_⟩⟩;have t12:aG H3 ZD:=(((s5.trans s6).trans s9).trans Dj).trans s12;have XN:=s3.trans t12;have h12:=t12 _ _ h3;refine⟨_,rfl,.inl ⟨rfl,_,aQ.of h12⟩,_,rfl,_,rfl,aq ⟨a,ns,_,_,rfl,XN.seq hS,h63,⟨by lia,by lia⟩,⟨by decide,by decide⟩,fun y y0 y1=>?_⟩⟩;refine⟨_,rfl,iZ rfl (.inr (aK.of (XN _ _ htr))) (aq ⟨lp,?_⟩)⟩;refine⟨_,rfl,aq ⟨⟨by decide,by decide⟩,_,_,rfl,rfl,(by show (0:Int)<3;decide),_,rfl,aq ⟨(by show (0:Int)<e;exact ep),_,rfl,_,rfl,_,rfl,_,rfl,zI (by show 6<=1000;decide),fun WQ Yo=>?_⟩⟩⟩;refine aJ fun G_ g_=>?_;obtain⟨wy2,w1,w2,w3⟩:=hgv.wy (show 0<rs.length by lia);apply g_;clear g_ G_;have y2:=pW y (show ((rv.length:Nat):Int)≠0 by lia);have y3:=rR y lp;have W4:=zF Yo (.tup [.int (y%((rv.length:Nat):Int)),.int (x/5%3%e),gd,vd,.str wy,gV gv])
  have i13:upd ZD WQ (.tup [.int (y%((rv.length:Nat):Int)),.int (x/5%3%e),gd,vd,.str wy,gV gv]) WQ=some (.tup [.int (((y%((rv.length:Nat):Int)).toNat:Nat):Int),.int (x/5%3%e),gd,vd,.str wy2.tx,wy2.gv]):=by
   rw[zC,w1,w2,Int.toNat_of_nonneg y2]
  have h13:=W4 _ _ h12;generalize upd ZD WQ (.tup [.int (y%((rv.length:Nat):Int)),.int (x/5%3%e),gd,vd,.str wy,gV gv])=H13 at W4 i13 h13 ⊢;have lv:=hA.length;have kl:=aA.lst h13 (.lst (vs++[.ref WQ]));refine⟨pr,_,_,rfl,rfl,h13,zV (by lia),vs++[.ref WQ],ds++[⟨(y%((rv.length:Nat):Int)).toNat,x/5%3%e,gg,dd,wy2⟩],cM hpr (XN.trans W4) _,zC,Al.snoc (hA.mono fun _ _ z=>z.mono ((aA.of (t12.trans W4)).trans kl)) ⟨WQ,gd,vd,rfl,kl _ _ i13,hgd.mono ((aA.of (s12.trans W4)).trans kl),hdd.mono ((aA.of W4).trans kl)⟩,fun d hd=>?_,by simp [hlen],_,_,_,_,_,_,_,rfl⟩;rcases cX.mp hd with hd | hd
  ·exact hfit d hd
  ·rw[cB.mp hd];exact⟨by show (y%((rv.length:Nat):Int)).toNat<rs.length;lia,w3,Vg,ght,okd,ldd⟩
 rintro σ' H3 aP;refine aJ fun G_ g_=>?_;obtain⟨vs,ds,s3,h3,hA,hfit,hlen,o6,o7,o8,o9,Ef,Ed,VJ,rfl⟩:=aP;apply g_;clear g_ G_;refine⟨_,rfl,pr,_,rfl,.inl ⟨aQ.of h3,fun p hp=>?_⟩⟩;exact q p vs ds _ (s3.trans (zF hp _)) zC (hA.mono fun _ _ z=>z.mono (aA.new hp _)) hfit hlen
end
end uz
namespace uz
open PySem L2 pQ rG CN JQ GP
open Ru (Wy Dx xF rH dC rN rM Wm)
theorem int_at{zs:List Int}{i:Int}(h0:0<=i)(h1:i<(zs.length:Int)):∃ z∈zs,uQ (zs.map V.int) i=some (.int z):=by
 obtain⟨v,hv,e⟩:=jx (xs:=zs.map V.int) (i:=i) h0 (by rw[bZ];exact h1);obtain⟨z,hz,rfl⟩:=eQ.mp hv;exact⟨z,hz,e⟩
noncomputable def JZ(H:Hp)(v:V)(z:Int×Int):Prop:=∃(a:Addr)(nm:Str),v = .ref a/\H a=some (.tup [.str nm,.int z.1,.int z.2])
theorem JZ.mono{H H':Hp}{v:V}{r:Int×Int}(x:JZ H v r)(k:aA H H'):JZ H' v r:=by
 obtain⟨a,nm,e,h⟩:=x;exact⟨a,nm,e,k _ _ h⟩
theorem Wl{H:Hp}{vs:List V}{bs:List (Int×Int)}(x:Al (JZ H) vs bs):Al (Ru.Ny H) vs (bs.map (·.1)):=by
 induction x with
 | nil=>exact .nil
 | cons h _ ih=>
  obtain⟨a,nm,e,h⟩:=h;exact .cons ⟨a,_,_,e,h⟩ ih
noncomputable def Tf(H:Hp)(p:Addr)(c:dC)(bs:List (Int×Int))(ne:Nat):Prop:=∃(pb pn t pd:Addr)(bv nv rv dv:List V),H p=some (.tup [.str c.od,.int (c.lb:Int),.int (c.tn:Int),.ref pb,.ref pn,.ref t,.ref pd])/\H pb=some (.tup bv)/\Al (JZ H) bv bs/\H pn=some (.tup nv)/\nv.length=ne/\H t=some (.tup rv)/\gW H rv c.rs/\Wm H c.rs c.di c.dO/\H pd=some (.tup dv)/\Al (xF H) dv c.ds
theorem Tf.mono{H H':Hp}{p:Addr}{c:dC}{bs:List (Int×Int)}{ne:Nat}(x:Tf H p c bs ne)(k:aA H H'):Tf H' p c bs ne:=by
 obtain⟨pb,pn,t,pd,bv,nv,rv,dv,h1,h2,h3,h4,h5,h6,h7,h8,h9,h10⟩:=x;exact⟨pb,pn,t,pd,bv,nv,rv,dv,k _ _ h1,k _ _ h2,h3.mono fun _ _ z=>z.mono k,k _ _ h4,h5,k _ _ h6,h7.mono k,h8.mono k,k _ _ h9,h10.mono fun _ _ z=>z.mono k⟩
structure Ah(c:dC)(bs:List (Int×Int)):Prop where
 ok:rM c
 sz:c.sz=bs.map (·.1)
 st:∀ b∈bs,0<=b.2/\b.2<b.1
 fit:Fit c.rs
 low:Z9 (aD c.rs)
 l10:c.rs.length<=10
 g:∀ d∈c.ds,d.g.ok c.sz.length/\d.g.ht<=3
 l5:c.lb<=5
 t4:1<=c.tn/\c.tn<=4
theorem Tf.ch{H:Hp}{p:Addr}{c:dC}{bs:List (Int×Int)}{ne:Nat}(x:Tf H p c bs ne)(o:Ah c bs):rN H p c:=by
 obtain⟨pb,pn,t,pd,bv,nv,rv,dv,h1,h2,h3,h4,h5,h6,h7,h8,h9,h10⟩:=x;exact⟨pb,t,pd,_,bv,dv,h1,h2,by rw[o.sz];exact Wl h3,⟨rv,h6,h7⟩,h8,h9,h10⟩
noncomputable def Jo(K:bO):Sp:=fun vs H Q _ => ∃(a:Addr)(ns:List Int),vs=[.ref a]/\aQ K H a (ns.map V.int)/\ns.length<=63 ∧
 ∀(p:Addr)(c:dC)(bs:List (Int×Int))(ne:Nat)(H':Hp),aG H H'->Tf H' p c bs ne->Ah c bs->ne<=8->Q (.ref p) H'
section
variable{P:Program}{w:World}{K:bO}{mg:Str->Option Value}{base:Heap}
noncomputable abbrev Rz:Scope:=⟨.function,[("_law_script",.cell),("_law_many",.local),("_law_events",.local),("_law_boxes",.local),("_law_k",.local),("_law_size",.local),("_law_sizes",.local),("_law_names",.local),("_law_rooms_here",.local),("_law_count",.local),("_law_doors_here",.local),("_law_order",.local),("_law_letters",.local),("_law_turns",.local),("_law_mixed",.globalImplicit),("range",.globalImplicit),("_law_cell_at",.globalImplicit),("_law_name",.globalImplicit),("tuple",.globalImplicit),("_law_rooms",.globalImplicit),("_law_depths",.globalImplicit),("_law_doors",.globalImplicit)],false,false,(aB jl).more⟩
theorem Vp:aB jl=Rz:=by rfl
theorem aV:aH ["_law_script","_law_many","_law_events","_law_boxes","_law_k","_law_size","_law_sizes","_law_names","_law_rooms_here","_law_count","_law_doors_here","_law_order","_law_letters","_law_turns"] ["_law_script"] Rz:=eO
theorem Qh{n:Nat}{f gm gc gn ge gr gd:Addr}{fd dm dc dn de dr dd:FuncData}(F:cY K "_law_chart" "_law_chart" jl f fd)(aL:Dp P w K mg base aW n gm dm ["_law_script","_law_k","_law_salt"] (kJ K) "_law_mixed")
  (dU:Dp P w K mg base aW n gc dc ["_law_script","_law_k"] (Ax K) "_law_cell_at")
  (dZ:Dp P w K mg base aW n gn dn ["_law_k","_law_number"] Av "_law_name")
  (Cd:Dp P w K mg base aW n ge de ["_law_script","_law_many"] (DW K) "_law_depths")
  (GC:Dp P w K mg base aW n gr dr ["_law_script","_law_depths_here","_law_sizes","_law_events"] (Ji K) "_law_rooms")
  (GD:Dp P w K mg base aW n gd dd ["_law_script","_law_many","_law_rooms_here","_law_sizes","_law_events"] (Jm K) "_law_doors")
  (aY:mg "range" = none) (aU:mg "tuple" = none):aM P w K mg base aW (n+1) f fd ["_law_script"] (Jo K):=by
 refine okS Rz Vp F aV (fun vs H Q E h=>?_) (fun cdv A outer s H vs Q E hr h=>?_)
 ·refine aJ fun G_ g_=>?_;obtain⟨a,ns,rfl,_⟩:=h;apply g_;clear g_ G_;rfl
 refine aJ fun G_ g_=>?_;obtain⟨a,ns,rfl,hS,h63,q⟩:=h;apply g_;clear g_ G_
 refine⟨_,Zk.p (iW (Dn (zK (i:=1) aV.nd rfl (Or.inl rfl) (yC yF zB (yC yL (yC yF (yC fW (yC zY (pC aL hr (zA (pv 0) (zA zB (zA zB zD)))) zB) zB) zB) zB))))
  (iW (Dq (i:=2) aV.nd rfl (Or.inl rfl) (Ds (Dr (vf (vs:=[.int 0,.int 1,.int 1,.int 2,.int 2,.int 2,.int 3,.int 3]) (by rfl))) (yC zY (pC aL hr (zA (pv 0) (zA zB (zA zB zD)))) zB) (fun _ _=>rfl)))
  (iW (Dn (zK (i:=3) aV.nd rfl (Or.inl rfl) (yK zD)))
  (qAW (Dn (bU PassesOwn.never rfl (bT rfl aY (zA (yC zY (pC aL hr (zA (pv 0) (zA zB (zA zB zD)))) zB) zD)) (yJ (i:=4) aV.nd rfl (Or.inl rfl))
  (zE (zK (i:=5) aV.nd rfl (Or.inl rfl) (yC yF zB (yC zY (pC aL hr (zA (pv 0) (zA zB (zA (yC yF zB (pv 4)) zD)))) zB)))
  (zZ (yD (zL yG (yC zY (pC aL hr (zA (pv 0) (zA zB (zA (yC yF zB (pv 4)) zD)))) zB) zB (zR _))
  (zG (zK (i:=5) aV.nd rfl (Or.inl rfl) (yC yF zB (yC zY (pC dU hr (zA (pv 0) (zA zB zD))) (yC QQ zB zB)))))
  zT)
  (zG (yI (dJ j7 pY pX yH (pv 3) (zA (zW (zA (pC dZ hr (zA (pv 4) (zA (yC zY (pC dU hr (zA (pv 0) (zA zB zD))) zB) zD))) (zA (pv 5) (zA (yC zY (pC aL hr (zA (pv 0) (zA zB (zA (yC yF zB (pv 4)) zD)))) (pv 5)) zD)))) zD))))))))
  (iW (Dn (qX (i:=6) (aX:=[]) rfl aV.nd rfl (Or.inl rfl) (show bD Rz ["_law_script","_law_many","_law_events","_law_boxes","_law_k","_law_size","_law_sizes","_law_names","_law_rooms_here","_law_count","_law_doors_here","_law_order","_law_letters","_law_turns"] _ _ _ from xN) (yM (pv 3)) (fun _ _ _ _ _ _=>cD) (fun _ _ _ _ _ _=>(yB (r:=j9 K) zH (pv 0) zB (fun _ _=>rfl)))))
  (iW (Dn (zK (i:=7) aV.nd rfl (Or.inl rfl) (yA zX rfl aU lV (zA (yT (aX:=[(0,"_law_script")]) rfl (show bD Rz ["_law_script","_law_many","_law_events","_law_boxes","_law_k","_law_size","_law_sizes","_law_names","_law_rooms_here","_law_count","_law_doors_here","_law_order","_law_letters","_law_turns"] _ _ _ from xN) (bT rfl aY (zA (pv 2) zD)) (fun _ _ _ _ _ _=>cD) (fun _ _ _ _ _ _=>(pC dZ hr (zA (pv 0) (zA (yC zY (pC dU hr (zA (pv 1) (zA zB zD))) zB) zD))))) zD))))
  (iW (Dn (zK (i:=8) aV.nd rfl (Or.inl rfl) (pC GC hr (zA (pv 0) (zA (pC Cd hr (zA (pv 0) (zA (pv 1) zD))) (zA (pv 6) (zA (pv 2) zD)))))))
  (iW (Dq (i:=9) aV.nd rfl (Or.inl rfl) (Ds (Dr (vf (vs:=[.int 4,.int 5,.int 6,.int 7,.int 8,.int 9,.int 10,.int 6,.int 7,.int 8,.int 2,.int 0]) (by rfl))) (yC zY (pC aL hr (zA (pv 0) (zA zB (zA zB zD)))) zB) (fun _ _=>rfl)))
  (iW (Dn (zK (i:=10) aV.nd rfl (Or.inl rfl) (pC GD hr (zA (pv 0) (zA (pv 9) (zA (pv 8) (zA (pv 6) (zA (pv 2) zD))))))))
  (iW (Dq (i:=11) aV.nd rfl (Or.inl rfl) (Ds (Dr (vf (vs:=[.str "inner",.str "outer"]) (by rfl))) (yC zY (pC aL hr (zA (pv 0) (zA zB (zA zB zD)))) zB) (fun _ _=>rfl)))
  (iW (Dq (i:=12) aV.nd rfl (Or.inl rfl) (Ds (Dr (vf (vs:=[.int 0,.int 1,.int 2,.int 3,.int 2,.int 4,.int 3,.int 5]) (by rfl))) (yC zY (pC aL hr (zA (pv 0) (zA zB (zA zB zD)))) zB) (fun _ _=>rfl)))
  (iW (Dq (i:=13) aV.nd rfl (Or.inl rfl) (Ds (Dr (vf (vs:=[.int 1,.int 2,.int 3,.int 4,.int 3,.int 4,.int 2,.int 4]) (by rfl))) (yC zY (pC aL hr (zA (pv 0) (zA zB (zA zB zD)))) zB) (fun _ _=>rfl)))
  (qAV (Dn (zO (zW (zA (pv 11) (zA (pv 12) (zA (pv 13) (zA (yA zX rfl aU lV (zA (pv 3) zD)) (zA (pv 7) (zA (pv 8) (zA (pv 10) zD))))))))))))))))))))))),?_⟩
 refine⟨_,rfl,a,ns,_,_,rfl,hS,h63,⟨by decide,by decide⟩,⟨by decide,by decide⟩,fun x x0 x1=>(aq ⟨(by show (0:Int)<16;decide),_,_,rfl,rfl,qi (by lia) (by lia),_,_,rfl,rfl,aq ⟨⟨by decide,by decide⟩,_,_,rfl,rfl,?_⟩⟩)⟩;refine aJ fun G_ g_=>?_;obtain⟨m,hm,m1,m10⟩:∃ m:Nat,1+(x%16*9+14)/16=(m:Int)/\1<=m/\m<=10:=⟨(1+(x%16*9+14)/16).toNat,by lia,by lia,by lia⟩;apply g_;clear g_ G_;refine⟨zI (by show 8<=1000;decide),fun p1 hp1=>?_⟩;have s1:=zF hp1 (.lst [V.int 0,V.int 1,V.int 1,V.int 2,V.int 2,V.int 2,V.int 3,V.int 3]);refine⟨_,rfl,a,ns,_,_,rfl,s1.seq hS,h63,⟨by decide,by decide⟩,⟨by decide,by decide⟩,fun x2 x20 x21=>?_⟩;refine aJ fun G_ g_=>?_;obtain⟨e,he,qG8⟩:=int_at (zs:=[0,1,1,2,2,2,3,3]) (i:=x2%8) (by lia) (by show _<(8:Int);lia);apply g_;clear g_ G_
 have e03:0<=e/\e<=3:=by
  simp only[List.mem_cons,List.not_mem_nil,or_false]at he;lia
 refine (aq ⟨(by show (0:Int)<8;decide),bY (aQ.of zC) qG8 ?_⟩);generalize upd H p1 (.lst [V.int 0,V.int 1,V.int 1,V.int 2,V.int 2,V.int 2,V.int 3,V.int 3])=H1 at s1 ⊢;refine⟨Nat.zero_le _,fun pb hpb=>?_⟩;have npb:H pb=none:=s1.free hpb;have s2:=s1.trans (zF hpb (.lst []));refine⟨fun σ' H'=>∃(vs:List V)(sz:List (Int×Int)),aG H H'/\H' pb=some (.lst vs)/\Al (JZ H') vs sz/\(∀ z∈sz,0<=z.2/\z.2<z.1)/\sz.length<=6/\∃ o4 o5:Option V,σ'=[some (.ref a),some (.int (1+(x%16*9+14)/16)),some (.int e),some (.ref pb),o4,o5,none,none,none,none,none,none,none,none],?_,?_⟩
 ·refine⟨_,rfl,a,ns,_,_,rfl,s2.seq hS,h63,⟨by decide,by decide⟩,⟨by decide,by decide⟩,fun x3 x30 x31=>(aq ⟨(by show (0:Int)<3;decide),_,rfl,by lia,by lia,?_⟩)⟩;refine cT (fun i σ' H'=>∃(vs:List V)(sz:List (Int×Int)),aG H H'/\H' pb=some (.lst vs)/\Al (JZ H') vs sz/\(∀ z∈sz,0<=z.2/\z.2<z.1)/\sz.length=i/\∃ o4 o5:Option V,σ'=[some (.ref a),some (.int (1+(x%16*9+14)/16)),some (.int e),some (.ref pb),o4,o5,none,none,none,none,none,none,none,none])
   ⟨[],[],s2,zC,.nil,(fun d h=>by cases h),rfl,none,none,rfl⟩ ?_ (fun σ' H' ⟨vs,sz,h1,h2,h3,h4,h5,h6⟩=>⟨vs,sz,h1,h2,h3,h4,by lia,h6⟩)
  rintro i σ' H3 hi aP;refine aJ fun G_ g_=>?_;obtain⟨vs,sz,s3,h3,hA,hpos,hlen,o4,o5,rfl⟩:=aP;apply g_;clear g_ G_
  have hi3:i<3:=by lia
  refine⟨_,rfl,_,rfl,aq ⟨a,ns,_,_,rfl,s3.seq hS,h63,⟨by decide,by decide⟩,⟨by lia,by lia⟩,fun y y0 y1=>(aq ⟨(by show (0:Int)<3;decide),_,_,rfl,rfl,?_⟩)⟩⟩;refine⟨fun σ' H'=>H'=H3/\∃ z:Int,0<z/\σ'=[some (.ref a),some (.int (1+(x%16*9+14)/16)),some (.int e),some (.ref pb),some (.int (0+(i:Int))),some (.int z),none,none,none,none,none,none,none,none],?_,?_⟩
  ·refine⟨_,rfl,_,rfl,aq ⟨a,ns,_,_,rfl,s3.seq hS,h63,⟨by decide,by decide⟩,⟨by lia,by lia⟩,fun y2 y20 y21=>(aq ⟨(by show (0:Int)<6;decide),rfl,_,rfl,fH (fun c=>?_) (fun c=>⟨rfl,1+y%3,by lia,rfl⟩)⟩)⟩⟩;refine⟨_,rfl,a,ns,_,rfl,s3.seq hS,h63,fun v=>(aq ⟨⟨by decide,by decide,by decide⟩,_,_,rfl,rfl,(by show (0:Int)<10 ^ 30;decide),_,_,rfl,rfl,rfl,1+v%10 ^ 30,?_,rfl⟩)⟩;have:=pW v (show (10:Int) ^ 30≠0 by decide);lia
  rintro σ4 H4 aP;refine aJ fun G_ g_=>?_;obtain⟨rfl,z,z0,rfl⟩:=aP;apply g_;clear g_ G_;refine⟨_,rfl,.inl ⟨rfl,_,aQ.of h3⟩,_,rfl,_,rfl,a,ns,_,rfl,s3.seq hS,h63,fun cv=>(aq ⟨(by show (0:Int)<991;decide),_,_,rfl,fun nm H5 s5=>?_⟩)⟩;have XM:=s3.trans s5;refine⟨_,rfl,_,rfl,_,rfl,aq ⟨a,ns,_,_,rfl,XM.seq hS,h63,⟨by decide,by decide⟩,⟨by lia,by lia⟩,fun y3 y30 y31=>?_⟩⟩;refine⟨_,rfl,aq ⟨(by show (0:Int)<z;exact z0),zI (by show 3<=1000;decide),fun p6 hp6=>?_⟩⟩;have u6:=zF hp6 (.tup [.str nm,.int z,.int (y3%z)]);have h6:=u6 _ _ (s5 _ _ h3);have lv:=hA.length;have kl:=aA.lst h6 (.lst (vs++[.ref p6]));refine⟨pb,_,_,rfl,rfl,h6,zV (by lia),vs++[.ref p6],sz++[(z,y3%z)],cM npb (XM.trans u6) _,zC,Al.snoc (hA.mono fun _ _ b=>b.mono ((aA.of (s5.trans u6)).trans kl)) ⟨p6,nm,rfl,kl _ _ zC⟩,fun d hd=>?_,by simp [hlen],_,_,rfl⟩;rcases cX.mp hd with hd | hd
  ·exact hpos d hd
  ·rw[cB.mp hd];exact⟨pW _ (by lia),rR _ z0⟩
 rintro σ5 H5 aP;refine aJ fun G_ g_=>?_;obtain⟨vs,bs,s5,h5,hA,hst,l6,o4,o5,rfl⟩:=aP;obtain⟨sz,hsz0⟩:∃ sz:List Int,sz=bs.map (·.1):=⟨_,rfl⟩;apply g_;clear g_ G_
 have lsz:sz.length=bs.length:=by rw[hsz0,bZ]
 have hpos:∀ z∈sz,0<z:=fun z hz=>by
  rw[hsz0]at hz;refine aJ fun G_ g_=>?_;obtain⟨b,hb,rfl⟩:=eQ.mp hz;apply g_;clear g_ G_;have:=hst b hb;lia
 have lv:=hA.length;refine⟨_,rfl,pb,rfl,⟨_,aQ.of h5⟩,?_⟩;refine yS (K:=K) (a:=pb) (xs:=vs) (fun i acc H'=>H'=H5/\acc=(sz.take i).map V.int) ⟨rfl,rfl⟩ (fun i acc H' ⟨e,_⟩=>by subst e;exact aQ.of h5) (fun i y acc H' hx ⟨e1,e2⟩=>?_) (fun acc H' ⟨e1,e2⟩ ps hps=>?_)
 ·subst e1 e2
  have hi:i<sz.length:=by
   have:=(lQ.mp hx).1;lia
  have hib:i<bs.length:=by lia
  have erb:=gq hib
  have er:sz[i]? = some (bs[i]).1:=by rw[hsz0,gf,erb];rfl
  refine aJ fun G_ g_=>?_;obtain⟨v,hv,a2,nm,rfl,ha2⟩:=hA.get erb;apply g_;clear g_ G_;rw[hv]at hx;obtain rfl:=jO hx;refine⟨_,rfl,aF (aK.of ha2) rfl ⟨zV (by rw[bZ,jP];lia),rfl,?_⟩⟩;rw[j8,er,jd];rfl
 subst e1 e2;rw[show sz.take vs.length=sz from xK (by lia)];have s6:=zF hps (.lst (sz.map V.int));have h6:(upd H' ps (.lst (sz.map V.int))) ps=some (.lst (sz.map V.int)):=zC;generalize upd H' ps (.lst (sz.map V.int))=H6 at s6 h6 ⊢;have s56:=s5.trans s6;have hsz:jK H6 ps sz:=⟨h6,hpos,by lia⟩;refine⟨_,rfl,_,rfl,by lia,by lia,?_⟩;refine ir (fun i acc H'=>aG H6 H'/\acc.length=i) ⟨aG.refl _,rfl⟩ (fun i acc H' hi ⟨e1,e2⟩=>?_) (fun acc Hn ⟨e1,e2⟩ pl hpl=>?_)
 ·refine⟨_,rfl,_,rfl,a,ns,_,rfl,(s56.trans e1).seq hS,h63,fun cv=>(aq ⟨(by show (0:Int)<983;decide),_,_,rfl,fun z H'' s''=>⟨zV (by lia),e1.trans s'',by simp [e2]⟩⟩)⟩
 have s7:=e1.trans (zF hpl (.lst acc));refine⟨pl,_,rfl,.inl ⟨aQ.of zC,fun pn hpn=>?_⟩⟩;have s8:=s7.trans (zF hpn (.tup acc));have h8n:upd (upd Hn pl (.lst acc)) pn (.tup acc) pn=some (.tup acc):=zC
 have qF5:acc.length<=8:=by lia
 generalize upd (upd Hn pl (.lst acc)) pn (.tup acc)=H8 at s8 h8n ⊢;have s58:=s56.trans s8;refine⟨_,rfl,_,rfl,_,rfl,a,ns,m,(by show [V.ref a,V.int (1+(x%16*9+14)/16)]=[V.ref a,V.int (m:Int)];rw[hm]),s58.seq hS,h63,m1,by lia,fun pd dl H9 s9 Qk hpd good low ldl=>?_⟩;have s59:=s58.trans s9;refine⟨_,rfl,_,rfl,a,pd,ps,ns,dl,sz,e,rfl,s59.seq hS,h63,hpd,by lia,hsz.mono (s8.trans s9),fun t rv rs dis uH SJ Dj hrv rb edp fit=>?_⟩;have hR:cW SJ t rs:=⟨rv,hrv,rb.inn⟩;have qAT:=s59.trans Dj;have ld:=yV rs
 have lr:rs.length=m:=by rw[<-ld,edp,ldl]
 rw[<-edp]at good low;refine⟨zI (by show 12<=1000;decide),fun p11 qFX=>?_⟩;have T8:=zF qFX (.lst [V.int 4,V.int 5,V.int 6,V.int 7,V.int 8,V.int 9,V.int 10,V.int 6,V.int 7,V.int 8,V.int 2,V.int 0]);refine⟨_,rfl,a,ns,_,_,rfl,(qAT.trans T8).seq hS,h63,⟨by decide,by decide⟩,⟨by decide,by decide⟩,fun y2 y20 y21=>?_⟩;obtain⟨ct,hct,wM⟩:=int_at (zs:=[4,5,6,7,8,9,10,6,7,8,2,0]) (i:=y2%12) (by lia) (by show _<(12:Int);lia);refine aJ fun G_ g_=>?_
 obtain⟨c,rfl,c12⟩:∃ c:Nat,ct=(c:Int)/\c<=12:=by
  simp only[List.mem_cons,List.not_mem_nil,or_false]at hct;exact⟨ct.toNat,by omega,by omega⟩
 apply g_;clear g_ G_;refine (aq ⟨(by show (0:Int)<12;decide),bY (aQ.of zC) wM ?_⟩);generalize upd SJ p11 (.lst [V.int 4,V.int 5,V.int 6,V.int 7,V.int 8,V.int 9,V.int 10,V.int 6,V.int 7,V.int 8,V.int 2,V.int 0])=Wq at T8 ⊢;have qAS:=qAT.trans T8;refine⟨_,rfl,_,rfl,_,rfl,_,rfl,_,rfl,a,t,ps,ns,sz,rs,c,e,rfl,qAS.seq hS,h63,c12,hR.mono (aA.of T8),by lia,by lia,hsz.mono (((s8.trans s9).trans Dj).trans T8),e03.1,fun pdo dv ds ZD s12 hdv hDv Rr d12=>?_⟩;have U9:=qAS.trans s12;refine⟨zI (by show 2<=1000;decide),fun WQ Yo=>?_⟩;have uf:=zF Yo (.lst [V.str "inner",V.str "outer"]);refine⟨_,rfl,a,ns,_,_,rfl,(U9.trans uf).seq hS,h63,⟨by decide,by decide⟩,⟨by decide,by decide⟩,fun y3 y30 y31=>?_⟩;refine aJ fun G_ g_=>?_;obtain⟨od,_,hat3⟩:=v9 (zs:=[("inner" : Str),"outer"]) (i:=y3%2) (by lia) (by show _<(2:Int);lia);apply g_;clear g_ G_;refine (aq ⟨(by show (0:Int)<2;decide),bY (aQ.of zC) hat3 ?_⟩);generalize upd ZD WQ (.lst [V.str "inner",V.str "outer"])=H13 at uf ⊢;refine⟨zI (by show 8<=1000;decide),fun p14 qFW=>?_⟩;have Di:=uf.trans (zF qFW (.lst [V.int 0,V.int 1,V.int 2,V.int 3,V.int 2,V.int 4,V.int 3,V.int 5]));refine⟨_,rfl,a,ns,_,_,rfl,(U9.trans Di).seq hS,h63,⟨by decide,by decide⟩,⟨by decide,by decide⟩,fun y4 y40 y41=>?_⟩;refine aJ fun G_ g_=>?_;obtain⟨lt,hlt,qG7⟩:=int_at (zs:=[0,1,2,3,2,4,3,5]) (i:=y4%8) (by lia) (by show _<(8:Int);lia);apply g_;clear g_ G_;refine (aq ⟨(by show (0:Int)<8;decide),bY (aQ.of zC) qG7 ?_⟩);generalize upd H13 p14 (.lst [V.int 0,V.int 1,V.int 2,V.int 3,V.int 2,V.int 4,V.int 3,V.int 5])=Wo at Di ⊢;refine⟨zI (by show 8<=1000;decide),fun p15 qFV=>?_⟩;have xR:=Di.trans (zF qFV (.lst [V.int 1,V.int 2,V.int 3,V.int 4,V.int 3,V.int 4,V.int 2,V.int 4]));refine⟨_,rfl,a,ns,_,_,rfl,(U9.trans xR).seq hS,h63,⟨by decide,by decide⟩,⟨by decide,by decide⟩,fun y5 y50 y51=>?_⟩;refine aJ fun G_ g_=>?_;obtain⟨tn,htn,qG6⟩:=int_at (zs:=[1,2,3,4,3,4,2,4]) (i:=y5%8) (by lia) (by show _<(8:Int);lia);apply g_;clear g_ G_;refine (aq ⟨(by show (0:Int)<8;decide),bY (aQ.of zC) qG6 ?_⟩);generalize upd Wo p15 (.lst [V.int 1,V.int 2,V.int 3,V.int 4,V.int 3,V.int 4,V.int 2,V.int 4])=H15 at xR ⊢;have qAI:aG H' H15:=((((((s6.trans s8).trans s9).trans Dj).trans T8).trans s12)).trans xR;refine⟨_,rfl,_,rfl,_,rfl,_,rfl,pb,_,rfl,.inl ⟨aQ.of (qAI _ _ h5),fun Up qFU=>?_⟩⟩;have s16:=zF qFU (.tup vs);have i16:upd H15 Up (.tup vs) Up=some (.tup vs):=zC;generalize upd H15 Up (.tup vs)=Wn at s16 i16 ⊢;refine⟨_,rfl,_,rfl,_,rfl,zI (by show 7<=1000;decide),fun pc RB=>?_⟩;refine aJ fun G_ g_=>?_
 obtain⟨lb,rfl,lb5⟩:∃ lb:Nat,lt=(lb:Int)/\lb<=5:=by
  simp only[List.mem_cons,List.not_mem_nil,or_false]at hlt;exact⟨lt.toNat,by lia,by lia⟩
 obtain⟨tm,rfl,tm1,tm4⟩:∃ tm:Nat,tn=(tm:Int)/\1<=tm/\tm<=4:=by
  simp only[List.mem_cons,List.not_mem_nil,or_false]at htn;exact⟨tn.toNat,by lia,by lia,by lia⟩
 apply g_;clear g_ G_;have ZM:=zF RB (.tup [.str od,.int (lb:Int),.int (tm:Int),.ref Up,.ref pn,.ref t,.ref pdo]);have Jz:=(xR.trans s16).trans ZM;have K1:=((T8.trans s12)).trans Jz;refine q pc ⟨od,lb,tm,sz,rs,(fun k=>dis.getD k []),(fun k=>uH.getD k []),ds⟩ bs acc.length _ (U9.trans Jz) ⟨Up,pn,t,pdo,vs,acc,rv,dv,zC,ZM _ _ i16,hA.mono (fun _ _ b=>b.mono (aA.of ((qAI.trans s16).trans ZM))),((s9.trans Dj).trans K1) _ _ h8n,rfl,K1 _ _ hrv,rb.inn.mono (aA.of K1),rb.dd.mono (aA.of K1),Jz _ _ hdv,hDv.mono fun _ _ z=>z.mono (aA.of Jz)⟩ ?_ qF5;exact⟨⟨good,by show rs.length<=40;lia,by show sz.length<=6;lia,hpos,by show lb<=12;lia,fun k=>(rb.say k).1,fun k=>(rb.say k).2,by show ds.length<=63;lia,fun d hd=>⟨(Rr d hd).1,(Rr d hd).2.1,(Rr d hd).2.2.2.2⟩⟩,hsz0,hst,fit,low,by show rs.length<=10;lia,fun d hd=>⟨(Rr d hd).2.2.1,(Rr d hd).2.2.2.1⟩,lb5,⟨tm1,tm4⟩⟩
end
end uz
namespace Ru
open PySem L2 pQ rG CN S9 JQ jY
open GP (Al)
inductive lL(c:dC)(bF:List En)(s0:S4):Nat->List En->S4->Prop where
 | one:lL c bF s0 1 bF s0
 | more {n:Nat} {es e2:List En} {s s2:S4} {e:Int} {l:List Int}:lL c bF s0 n es s->n<c.tn->s.l=e::l->zz c e ⟨s.os,s.bx,s.ks,l⟩ e2 s2->lL c bF s0 (n+1) (es++e2) s2
noncomputable def t6(l:List Int):List En:=l.map fun e=>En.rc (.lost e)
noncomputable def vG(C:Addr)(n:Nat):Sp:=fun vs H Q _ => ∃(pc ps pr p:Addr)(c:dC)(s:S4)(es:List En)(rv:List V)(fp:List Addr)(J:List Nat->List (List Nat)->Prop),vs=[.ref pc,.ref ps,.ref pr,.ref p]/\rN H pc c/\All c J n/\fM H ps s/\jX c s/\J s.os s.ks/\LL C H p fp c.lb s.l/\H pr=some (.lst rv)/\Al (fO H) rv es/\es.length<=40001/\c.tn<=20 ∧
 ∀(t ps' pw:Addr)(wv:List V)(n':Nat)(es':List En)(s':S4)(fp':List Addr)(H':Hp),lL c es s n' es' s'->(c.tn<=n'∨s'.l=[])->J s'.os s'.ks->jX c s'->az H H' fp fp'->H' t=some (.tup [.ref ps',.ref pw])->fM H' ps' s'->H' pw=some (.lst wv)->H pw=none->pw∉fp'->Al (fO H') wv (es'++t6 s'.l)->wv.length<=1000000->Q (.ref t) H'
theorem fM.tail{H:Hp}{ps:Addr}{s:S4}(x:fM H ps s)(l:List Int):fM H ps ⟨s.os,s.bx,s.ks,l⟩:=x
section
variable{P:Program}{w:World}{K:bO}{mg:Str->Option Value}{base:Heap}{C:Addr}
theorem fU:aH ["chart","stand","record","letters","now","whole","turns","told"] ["chart","stand","record","letters"] (aB mK):=eO
theorem M8{n m:Nat}{f g1 gt gw:Addr}{fd d1 dt dw:FuncData}(F:cY K "rested" "rested" mK f fd)(cl:uy K C)
  (mT:Meth K C "taken" gt) (Vx:aM P w K mg base aW m gt dt ["self"] (Jg (LL C))) (Vr:Binds K dt ["self"] [])
  (mW:Meth K C "waiting" gw) (Ad:aM P w K mg base aW m gw dw ["self"] (xq (LL C))) (zu:Binds K dw ["self"] [])
  (JR:Dp P w K mg base aW m g1 d1 ["chart","stand","event","letters"] (Gq C n) "turn")
  (aR:mg "len" = none) (ie:mg "list" = none):aM P w K mg base aW (m+1) f fd ["chart","stand","record","letters"] (vG C n):=by
 refine F.ok fU (fun vs H Q E h=>?_) (fun cdv A outer s H vs Q E hr h=>?_)
 ·refine aJ fun G_ g_=>?_;obtain⟨pc,ps,pr,p,c,s,es,rv,fp,J,rfl,_⟩:=h;apply g_;clear g_ G_;rfl
 refine aJ fun G_ g_=>?_;obtain⟨pc,ps,pr,p,c,st,bF,T9,fp,J,rfl,hC,al,hS,so,js,hL,hpr,hA,Za,T4,q⟩:=h;apply g_;clear g_ G_
 refine⟨_,(zE (zK (i:=4) fU.nd rfl (Or.inl rfl) (pv 1))
  (zE (zK (i:=5) fU.nd rfl (Or.inl rfl) (yA fL rfl ie PyProof.Rows.boot_list (zA (pv 2) zD)))
  (zE (zK (i:=6) fU.nd rfl (Or.inl rfl) zB)
  (zZ (mQ PassesOwn.never (bc (PW.pt (pw_and (zL lR (pv 6) (yB zH (pv 0) zB (fun _ _=>rfl)) (zR _)) (yP (zL jD (zS zN rfl aR cA (zA (vm (pv 3) cl mW Ad hr zu .nil yE) zD)) zB (zR _))))))
  (zE (zK (i:=7) fU.nd rfl (Or.inl rfl) (pC JR hr (zA (pv 0) (zA (pv 4) (zA (vm (pv 3) cl mT Vx hr Vr .nil yE) (zA (pv 3) zD))))))
  (zE (zK (i:=4) fU.nd rfl (Or.inl rfl) (yB zH (pv 7) zB (fun _ _=>rfl)))
  (zE (yI (dJ j7 PySem.F.slot_list_extend PySem.F.type_list_extend iK (pv 5) (zA (yB zH (pv 7) zB (fun _ _=>rfl)) zD)))
  (zG (Q9 (i:=6) fU.nd rfl (Or.inl rfl) zB R4))))))
  (zE (yI (dJ j7 PySem.F.slot_list_extend PySem.F.type_list_extend iK (pv 5) (zA (yT (aX:=[]) rfl (show bD (aB mK) ["chart","stand","record","letters","now","whole","turns","told"] _ _ _ from xN) (yM (vm (pv 3) cl mW Ad hr zu .nil yE)) (fun _ _ _ _ _ _=>cD) (fun _ _ _ _ _ _=>zW (zA zP (zA (pv 0) zD)))) zD)))
  (zG (zO (zW (zA (pv 4) (zA (pv 5) zD)))))))))),?_⟩
 have lA:=hA.length;refine⟨_,rfl,_,rfl,iZ rfl (.inl (aQ.of hpr)) (fun pw wK=>?_)⟩;have u1:=zF wK (.lst T9);have i1:upd H pw (.lst T9) pw=some (.lst T9):=zC;generalize upd H pw (.lst T9)=H1 at u1 i1 ⊢;refine aJ fun G_ g_=>?_;obtain⟨pb,t,pd,x4,bv,dv,h1,h2,h3,h4,h5,h6,h7⟩:=id hC;apply g_;clear g_ G_;refine⟨fun σ' Hi => ∃(nt:Nat)(lY:Addr)(cL:List Addr)(rv:List V)(es:List En)(si:S4)(o6 o7:Option V),σ'=[some (.ref pc),some (.ref ps),some (.ref pr),some (.ref p),some (.ref lY),some (.ref pw),o6,o7]/\az H Hi fp cL/\LL C Hi p cL c.lb si.l/\fM Hi lY si/\jX c si/\J si.os si.ks/\lL c bF st nt es si/\(c.tn<=nt∨si.l=[])/\Hi pw=some (.lst rv)/\pw∉cL/\Al (fO Hi) rv es/\es.length<=900000,?_,?_⟩
 ·refine⟨fun ms σ' Hi => ∃(nt:Nat)(lY:Addr)(cL:List Addr)(rv:List V)(es:List En)(si:S4)(o7:Option V),ms=20-nt/\σ'=[some (.ref pc),some (.ref ps),some (.ref pr),some (.ref p),some (.ref lY),some (.ref pw),some (.int (nt:Int)),o7]/\az H Hi fp cL/\LL C Hi p cL c.lb si.l/\fM Hi lY si/\jX c si/\J si.os si.ks/\lL c bF st nt es si/\Hi pw=some (.lst rv)/\pw∉cL/\Al (fO Hi) rv es/\es.length<=40001*nt/\nt<=20,
   ⟨_,1,ps,fp,T9,bF,st,_,rfl,rfl,az.same fp u1,LL.same hL u1,hS.mono (aA.of u1),so,js,.one,i1,LL.new hL wK,hA.mono fun _ _ z=>z.mono (aA.of u1),by lia,by decide⟩,?_⟩
  rintro ms σ' Hi aP;refine aJ fun G_ g_=>?_;obtain⟨nt,lY,cL,rv,es,si,o7,rfl,rfl,T7,hLi,hSi,Cm,ji,RR,hwi,nwi,ur,lei,n20⟩:=aP;apply g_;clear g_ G_;have kt:=az.keep T7 hL;refine⟨fun b H'=>∃ fp':List Addr,az Hi H' cL fp'/\LL C H' p fp' c.lb si.l/\(b=true->nt<c.tn/\si.l≠[])/\(b=false->c.tn<=nt∨si.l=[]),?_,?_⟩
  ·refine⟨_,rfl,_,rfl,aF (aK.of (kt _ _ h1)) rfl (aq ⟨_,rfl,fH (fun z=>?_) (fun z=>?_)⟩)⟩
   ·have z1:=of_decide_eq_true z;refine aJ fun G_ g_=>?_;obtain⟨dx,fs,ho,n1,n2,n3⟩:=(gY C).obj hLi;apply g_;clear g_ G_;refine⟨_,rfl,p,dx,fs,rfl,ho,n3,p,cL,c.lb,si.l,rfl,hLi,Cm.l,al.ok.TQ,fun qa fp' H' hL' st' nq nqf hqa=>?_⟩;refine (iZ rfl (.inl (aQ.of hqa)) (aq ⟨_,rfl,fp',st',hL',fun z2=>⟨by lia,fun z3=>?_⟩,fun z2=>.inr ?_⟩))
    ·rw[z3]at z2
     cases z2
    ·have z2:=of_decide_eq_false z2;rw[bZ]at z2;exact List.eq_nil_of_length_eq_zero (by lia)
   ·have z1:=of_decide_eq_false z;exact⟨cL,az.same cL (aG.refl _),hLi,(fun z=>by cases z),fun _=>.inl (by lia)⟩
  rintro b H2 aP;refine aJ fun G_ g_=>?_;obtain⟨wQ,st2,hL2,ht,hf⟩:=aP;apply g_;clear g_ G_;have k2:=az.keep st2 hLi;have hw2:=az.apart st2 hwi nwi;have qAL:=az.trans T7 st2;refine fH (fun z=>?_) (fun z=>?_)
  ·refine aJ fun G_ g_=>?_;obtain⟨lt,ne⟩:=ht z
   obtain⟨e,l',el⟩:∃ e l',si.l=e::l':=by
    cases hl:si.l with
    | nil=>exact absurd hl ne
    | cons e l'=>exact⟨e,l',rfl⟩
   apply g_;clear g_ G_;refine⟨fun σ' H'=>∃(lY:Addr)(cL:List Addr)(rv:List V)(es:List En)(si:S4)(o7:Option V),σ'=[some (.ref pc),some (.ref ps),some (.ref pr),some (.ref p),some (.ref lY),some (.ref pw),some (.int ((nt+1:Nat):Int)),o7]/\az H H' fp cL/\LL C H' p cL c.lb si.l/\fM H' lY si/\jX c si/\J si.os si.ks/\lL c bF st (nt+1) es si/\H' pw=some (.lst rv)/\pw∉cL/\Al (fO H') rv es/\es.length<=40001*(nt+1),?_,?_⟩
   ·rintro σ' H' aP;refine aJ fun G_ g_=>?_;obtain⟨lY,cL,rv,es,si,o7,z1,z2,z3,z4,z5,z6,z7,z8,z9,Zq,Zo⟩:=aP;apply g_;clear g_ G_;exact⟨20-(nt+1),by lia,nt+1,lY,cL,rv,es,si,o7,rfl,z1,z2,z3,z4,z5,z6,z7,z8,z9,Zq,Zo,by lia⟩
   refine aJ fun G_ g_=>?_;obtain⟨dx,fs,ho,n1,n2,n3⟩:=(gY C).obj hL2;apply g_;clear g_ G_;refine⟨_,rfl,_,rfl,_,rfl,p,dx,fs,rfl,ho,n2,p,wQ,c.lb,si.l,rfl,hL2,Cm.l,al.ok.TQ,fun fp3 H3 Zf st3=>?_⟩;have k3:=az.keep st3 hL2;have hw3:=az.apart st3 hw2.1 hw2.2;have qAK:=az.trans qAL st3;have k03:=az.keep qAK hL;rw[el]at Zf ⊢;have ll:=Cm.l;rw[el,dz]at ll;refine⟨_,rfl,pc,lY,p,c,e,⟨si.os,si.bx,si.ks,l'⟩,fp3,J,rfl,hC.mono k03,al,(hSi.mono (k2.trans k3)).tail l',⟨Cm.inc,Cm.lt,Cm.VH,Cm.bx,Cm.ks,by show l'.length<=_;lia⟩,ji,Zf,fun tt ps2 O3 uK s2 es2 fp4 H4 TR j4 hL4 xM htt hS4 so4 hr4 nr4 nrf4 Zh le4=>?_⟩;have k4:=az.keep xM Zf;have hw4:=az.apart xM hw3.1 hw3.2;have qEI:=az.trans qAK xM
   have nerw:O3≠pw:=fun z=>by rw[z,hw3.1]at nr4;cases nr4
   have lAi:=ur.length;have lA4:=Zh.length;refine⟨_,rfl,aF (aK.of htt) rfl ?_⟩;refine⟨_,rfl,.inl ⟨rfl,_,aQ.of hw4.1⟩,_,rfl,aF (aK.of htt) rfl ⟨pw,O3,_,_,rfl,rfl,hw4.1,hr4,(by rw[sizeLine_eq];lia),?_⟩⟩;have k5:=aA.lst hw4.1 (.lst (rv++uK));have FP:=k2.trans (k3.trans (k4.trans k5));refine⟨_,rfl,aq ⟨ps2,fp4,rv++uK,es++es2,s2,_,rfl,az.upd qEI wK _,LL.upd hL4 hw4.2 _,hS4.mono k5,so4,j4,.more RR lt el TR,zC,hw4.2,Al.app (ur.mono fun _ _ z=>z.mono FP) (Zh.mono fun _ _ z=>z.mono k5),by rw[dW];lia⟩⟩
  ·exact⟨nt,lY,wQ,rv,es,si,_,_,rfl,qAL,hL2,hSi.mono k2,Cm,ji,RR,hf z,hw2.1,hw2.2,ur.mono fun _ _ z=>z.mono k2,by lia⟩
 rintro σ' Hi aP;refine aJ fun G_ g_=>?_;obtain⟨nt,lY,cL,rv,es,si,o6,o7,rfl,T7,hLi,hSi,Cm,ji,RR,dn,hwi,nwi,ur,lei⟩:=aP;obtain⟨dx,fs,ho,n1,n2,n3⟩:=(gY C).obj hLi;apply g_;clear g_ G_;refine⟨_,rfl,.inl ⟨rfl,_,aQ.of hwi⟩,_,rfl,p,dx,fs,rfl,ho,n3,p,cL,c.lb,si.l,rfl,hLi,Cm.l,al.ok.TQ,fun qa wQ H2 hL2 st2 nq nqf hqa=>?_⟩;have k2:=az.keep st2 hLi;have hw2:=az.apart st2 hwi nwi
 have newq:qa≠pw:=fun z=>by rw[z,hwi]at nq;cases nq
 have TQ:=al.ok.TQ;have sil:=Cm.l;refine⟨qa,rfl,⟨_,aQ.of hqa⟩,?_⟩;refine yS (K:=K) (a:=qa) (xs:=si.l.map V.int) (fun i acc H'=>aG H2 H'/\acc.length=i/\Al (fO H') acc (t6 (si.l.take i))) ⟨aG.refl _,rfl,.nil⟩ (fun i acc H' z=>aQ.of (z.1 _ _ hqa)) ?_ ?_
 ·rintro i x acc H' hx aP;refine aJ fun G_ g_=>?_;obtain⟨s1,la,hB⟩:=aP;apply g_;clear g_ G_;rw[gf]at hx
  cases hk:si.l[i]? with
  | none=>rw[hk]at hx;cases hx
  | some e=>
   rw[hk]at hx;obtain rfl:=jO hx;have hi:=(lQ.mp hk).1;refine⟨_,rfl,zI (by show 2<=1000;decide),fun p5 O6=>⟨by rw[sizeLine_eq];lia,s1.trans (zF O6 _),by rw[dW,gj,la],?_⟩⟩;unfold t6 at hB ⊢;rw[j8,hk,jd];exact (hB.mono fun _ _ z=>z.mono (aA.of (zF O6 _))).snoc ⟨p5,rfl,zC⟩
 rintro acc H3 ⟨s3,la,hB⟩ pz hpz;rw[bZ,xK (bM _)]at hB;rw[bZ]at la;have u4:=zF hpz (.lst acc);have i4:upd H3 pz (.lst acc) pz=some (.lst acc):=zC;have s4:=s3.trans u4;have w4:=s4 _ _ hw2.1;generalize upd H3 pz (.lst acc)=H4 at u4 i4 s4 w4 ⊢;have lAi:=ur.length;have nzw:pw≠pz:=zM (s3 _ _ hw2.1) hpz;refine⟨pw,pz,_,_,rfl,rfl,w4,i4,(by rw[sizeLine_eq];lia),?_⟩;have k5:=aA.lst w4 (.lst (rv++acc));have hL5:LL C (upd H4 pw (.lst (rv++acc))) p wQ c.lb si.l:=LL.upd (LL.same hL2 s4) hw2.2 _;have rQ:az H (upd H4 pw (.lst (rv++acc))) fp wQ:=az.upd (az.trans (az.trans T7 st2) (az.same wQ s4)) wK _;have r5:upd H4 pw (.lst (rv++acc)) pw=some (.lst (rv++acc)):=zC;generalize upd H4 pw (.lst (rv++acc))=H5 at k5 hL5 rQ r5 ⊢;refine⟨_,rfl,_,rfl,zI (by show 2<=1000;decide),fun tt htt=>?_⟩;have u6:=zF htt (.tup [V.ref lY,V.ref pw]);have k26:aA H2 (upd H5 tt (.tup [V.ref lY,V.ref pw])):=(aA.of s4).trans (k5.trans (aA.of u6));exact q tt lY pw (rv++acc) nt es si wQ _ RR dn ji Cm (az.trans rQ (az.same wQ u6)) zC (hSi.mono (k2.trans k26)) (u6 _ _ r5) wK hw2.2 (Al.app (ur.mono fun _ _ z=>z.mono (k2.trans k26)) (hB.mono fun _ _ z=>z.mono ((aA.of u4).trans (k5.trans (aA.of u6))))) (by rw[dW];lia)
theorem made{C:Addr}{H H1:Hp}{x dx:Addr}{fp:List Addr}(nx:H x=none)(ndx:H dx=none)(own:∀ b∈fp,b=x∨upd (upd H dx (.own x)) x (.ins C dx []) b=none)(rest:∀ b o,upd (upd H dx (.own x)) x (.ins C dx []) b=some o->b≠x->H1 b=some o):aG H H1/\∀ b∈fp,H b=none:=by
 refine⟨fun b o e=>?_,fun b hb=>?_⟩
 ·have nb:b≠x:=zM e nx;refine rest b o ?_ nb;rw[zQ nb,zQ (zM e ndx)];exact e
 ·rcases own b hb with z | z
  ·rw[z];exact nx
  ·by_cases y:b=x
   ·rw[y];exact nx
   ·rw[zQ y]at z
    by_cases y2:b=dx
    ·rw[y2];exact ndx
    ·rw[zQ y2]at z;exact z
theorem Dk{H:Hp}{p:Addr}(h:H p=some (.tup [])):∀ k:Nat,bV H (List.replicate k [V.ref p]).flatten (List.replicate k [])
 | 0=>.nil
 | k+1=>.cons ⟨p,rfl,h⟩ (Dk h k)
noncomputable def rn(c:dC)(bs:List (Int×Int))(ms:List Nat):S4:=⟨ms,(cC c.sz c.lb (ms.map fun r=>(En.inn r,c.di r)) (bs.map (·.2)) []).1,List.replicate c.rs.length [],(cC c.sz c.lb (ms.map fun r=>(En.inn r,c.di r)) (bs.map (·.2)) []).2.1⟩
noncomputable def An(c:dC)(bs:List (Int×Int))(ms:List Nat):List En:=(cC c.sz c.lb (ms.map fun r=>(En.inn r,c.di r)) (bs.map (·.2)) []).2.2
noncomputable def Nz(c:dC)(bs:List (Int×Int))(es:List En)(s:S4):Prop:=∃(ms:List Nat)(n:Nat)(e1:List En),Tr.Td (aD c.rs) (Nj c.rs) [] none ms/\lL c (An c bs ms) (rn c bs ms) n e1 s/\(c.tn<=n∨s.l=[])/\es=e1++t6 s.l
theorem K4{c:dC}{bF:List En}{s0:S4}:∀ {n:Nat} {e1:List En} {s1:S4},lL c bF s0 n e1 s1->∀ {e2:List En} {s2:S4},lL c bF s0 n e2 s2->e1=e2/\s1=s2:=by
 intro n e1 s1 h1
 induction h1 with
 | one=>
  intro e2 s2 h2;generalize hm:1=m at h2
  cases h2 with
  | one=>exact⟨rfl,rfl⟩
  | @more n _ _ _ _ _ _ h _ _ _=>
   have:n=0:=by lia
   subst this
   exact absurd h (by
    intro z;generalize hz:(0:Nat)=q at z
    cases z with
    | one=>lia
    | more=>lia)
 | @more n es e2' s s2' e l h lt el tr ih=>
  intro e2 s2 h2;generalize hm:n+1=m at h2
  cases h2 with
  | one=>
   have:n=0:=by lia
   subst this
   exact absurd h (by
    intro z;generalize hz:(0:Nat)=q at z
    cases z with
    | one=>lia
    | more=>lia)
  | @more n' es' e3 s' s3 e' l' h' lt' el' tr'=>
   obtain rfl:n=n':=by lia
   obtain⟨rfl,rfl⟩:=ih h';rw[el]at el';injection el' with a b;subst a;subst b;obtain⟨rfl,rfl⟩:=Cy tr tr';exact⟨rfl,rfl⟩
theorem K3{c:dC}{bF:List En}{s0:S4}{n:Nat}{e1:List En}{s1:S4}(h:lL c bF s0 n e1 s1):1<=n:=by
 cases h with
 | one=>exact bM _
 | more=>lia
theorem Px{c:dC}{bF:List En}{s0:S4}:∀ {n:Nat} {e1:List En} {s1:S4},lL c bF s0 n e1 s1->∀ m:Nat,1<=m->m<n->∃ e2 s2,lL c bF s0 m e2 s2/\m<c.tn/\s2.l≠[]:=by
 intro n e1 s1 h1
 induction h1 with
 | one=>
  intro m m1 m2;lia
 | @more n es e2' s s2' e l h lt el tr ih=>
  intro m m1 m2
  by_cases z:m<n
  ·exact ih m m1 z
  ·have:m=n:=by lia
   subst this;exact⟨es,s,h,lt,by rw[el];simp⟩
theorem K5{c:dC}{bF:List En}{s0 s1 s2:S4}{n m:Nat}{e1 e2:List En}(h1:lL c bF s0 n e1 s1)(h2:lL c bF s0 m e2 s2)(d1:c.tn<=n∨s1.l=[])(d2:c.tn<=m∨s2.l=[]):e1=e2/\s1=s2:=by
 have p1:=K3 h1;have p2:=K3 h2
 have key:∀ {n m:Nat} {e1:List En} {s1:S4} {e2:List En} {s2:S4},lL c bF s0 n e1 s1->lL c bF s0 m e2 s2->1<=n->(c.tn<=n∨s1.l=[])->¬ n<m:=fun {n m e1 s1 e2 s2} h1 h2 p1 d1 z=>by
  obtain⟨e3,s3,h3,a,b⟩:=Px h2 n p1 z;obtain⟨_,rfl⟩:=K4 h1 h3;rcases d1 with y | y
  ·lia
  ·exact b y
 have:n=m:=by
  have a:=key h1 h2 p1 d1;have b:=key h2 h1 p2 d2;lia
 subst this;exact K4 h1 h2
theorem uw{c:dC}{bs:List (Int×Int)}{e1 e2:List En}{s1 s2:S4}(h1:Nz c bs e1 s1)(h2:Nz c bs e2 s2):e1=e2/\s1=s2:=by
 obtain⟨ms,n,x,i1,r1,d1,rfl⟩:=h1;obtain⟨wC,n',x',i2,r2,d2,rfl⟩:=h2;obtain rfl:=i1.unique i2;obtain⟨rfl,rfl⟩:=K5 r1 r2 d1 d2;exact⟨rfl,rfl⟩
noncomputable def cg(es:List En):List Str:=es.filterMap fun e=>match e with
 | .rc (.say w)=>some w
 | _=>none
theorem yZ(es:List En)(e:En):cg (es++[e])=cg es++(match e with | .rc (.say w)=>[w] | _=>[]):=by
 unfold cg;rw[List.filterMap_append];congr 1
 cases e with
 | rc r=>cases r <;> rfl
 | _=>rfl
theorem Lq(e:En):∃(s':Str)(x':V)(r':List V),e.row = .str s'::x'::r'/\(decide (V.str s'=V.str ("say" : Str))=true->∃ w,e = .rc (.say w)/\x' = .str w)/\(decide (V.str s'=V.str ("say" : Str))=false->∀ w,e≠.rc (.say w)):=by
 have no:∀ {s':Str},¬ s' = "say" -> decide (V.str s'=V.str ("say" : Str))=true->False:=fun h z=>h (by
  have:=of_decide_eq_true z
  injection this)
 cases e with
 | rc r=>
  cases r with
  | say w=>exact⟨"say",_,_,rfl,fun _=>⟨w,rfl,rfl⟩,fun z=>absurd rfl (of_decide_eq_false z)⟩
  | put a b=>exact⟨"put",_,_,rfl,fun z=>(no (by decide +kernel) z).elim,fun _ w z=>by cases z⟩
  | send a=>exact⟨"send",_,_,rfl,fun z=>(no (by decide +kernel) z).elim,fun _ w z=>by cases z⟩
  | lost a=>exact⟨"lost",_,_,rfl,fun z=>(no (by decide +kernel) z).elim,fun _ w z=>by cases z⟩
 | inn k=>exact⟨"in",_,_,rfl,fun z=>(no (by decide +kernel) z).elim,fun _ w z=>by cases z⟩
 | out k=>exact⟨"out",_,_,rfl,fun z=>(no (by decide +kernel) z).elim,fun _ w z=>by cases z⟩
 | door k=>exact⟨"door",_,_,rfl,fun z=>(no (by decide +kernel) z).elim,fun _ w z=>by cases z⟩
 | thr k=>exact⟨"through",_,_,rfl,fun z=>(no (by decide +kernel) z).elim,fun _ w z=>by cases z⟩
 | take k=>exact⟨"take",_,_,rfl,fun z=>(no (by decide +kernel) z).elim,fun _ w z=>by cases z⟩
theorem NP{K:bO}{H:Hp}{pr:Addr}{rv:List V}{es:List En}(hpr:H pr=some (.lst rv))(hA:Al (fO H) rv es)(hz:es.length<=2000000){cs:St}{tc:TT}{te:TE}{Z:List V->Hp->Prop}
  (h1:∀(a:Addr)(s':Str)(x':V)(r':List V),H a=some (.tup (.str s'::x'::r'))->∀ Zb:Bool->Hp->Prop,Zb (decide (V.str s'=V.str ("say" : Str))) H->tc (some (.ref a)::cs) H Zb)
  (h2:∀(a:Addr)(s':Str)(x':V)(r':List V),H a=some (.tup (.str s'::x'::r'))->∀ Zv:V->Hp->Prop,Zv x' H->te (some (.ref a)::cs) H Zv)
  (h3:Z ((cg es).map V.str) H):jQ (ZC K pr) cs tc te H Z:=by
 have lr:=hA.length;refine yS (K:=K) (a:=pr) (xs:=rv) (fun i acc H'=>H'=H/\acc.length<=i/\acc=(cg (es.take i)).map V.str) ⟨rfl,bM _,rfl⟩ (fun i acc H' z=>by rw[z.1];exact aQ.of hpr) ?_ ?_
 ·rintro i x acc H' hx ⟨rfl,la,rfl⟩
  have hi:i<es.length:=by
   have:=(lQ.mp hx).1;lia
  have hk:=gq hi;obtain⟨v,hv,a,rfl,ha⟩:=hA.get hk;rw[hv]at hx;obtain rfl:=jO hx
  have Cr:es.take (i+1)=es.take i++[es[i]]:=by
   rw[j8,hk];rfl
  obtain⟨s',x',r',e1,e2,e3⟩:=Lq es[i];rw[e1]at ha;refine h1 a s' x' r' ha _ ?_
  cases c:decide (V.str s'=V.str ("say" : Str)) with
  | true=>
   obtain⟨w,ew,rfl⟩:=e2 c;refine O5 rfl (h2 a s' _ r' ha _ ⟨by rw[sizeLine_eq];lia,rfl,by rw[dW,gj];lia,?_⟩);rw[Cr,yZ,ew,jd];rfl
  | false=>
   refine qp rfl ⟨rfl,by lia,?_⟩;rw[Cr,yZ];have e3:=e3 c;generalize es[i]=e at e3
   cases e with
   | rc r=>
    cases r with
    | say w=>exact absurd rfl (e3 w)
    | put a b=>rw[gQ]
    | send a=>rw[gQ]
    | lost a=>rw[gQ]
   | inn k=>rw[gQ]
   | out k=>rw[gQ]
   | door k=>rw[gQ]
   | thr k=>rw[gQ]
   | take k=>rw[gQ]
 ·rintro acc H' ⟨rfl,_,rfl⟩;rw[xK (by lia)];exact h3
noncomputable def Gr:Sp:=fun vs H Q _ => ∃(pr:Addr)(rv:List V)(es:List En),vs=[.ref pr]/\H pr=some (.lst rv)/\Al (fO H) rv es/\es.length<=2000000/\∀(p:Addr)(H':Hp),aG H H'->H p=none->H' p=some (.lst ((cg es).map V.str))->Q (.ref p) H'
noncomputable def uU(n:Nat):Sp:=fun vs H Q _ => ∃(pc:Addr)(c:dC)(bs:List (Int×Int))(ne:Nat),vs=[.ref pc]/\uz.Tf H pc c bs ne/\uz.Ah c bs/\3<=n ∧
 ∀(t ps pw:Addr)(wv:List V)(es:List En)(s:S4)(H':Hp),Nz c bs es s->Jw c s.os s.ks->jX c s->aG H H'->H' t=some (.tup [.ref ps,.ref pw])->fM H' ps s->H' pw=some (.lst wv)->H pw=none->Al (fO H') wv es->es.length<=1000000->Q (.ref t) H'
theorem U6:aH ["record"] ["record"] (aB vN):=eO
theorem Uy{f:Addr}{fd:FuncData}(F:cY K "said" "said" vN f fd):aM P w K mg base aW 1 f fd ["record"] Gr:=by
 refine F.ok U6 (fun vs H Q E h=>?_) (fun cdv A outer s H vs Q E hr h=>?_)
 ·refine aJ fun G_ g_=>?_;obtain⟨pr,rv,es,rfl,_⟩:=h;apply g_;clear g_ G_;rfl
 refine aJ fun G_ g_=>?_;obtain⟨pr,rv,es,rfl,hpr,hA,hz,q⟩:=h;apply g_;clear g_ G_;refine⟨_,(zG (zO (yT (aX:=[]) rfl (show bD (aB vN) ["record"] _ _ _ from xN) (yM (pv 0)) (fun _ _ _ _ _ _=>fG (zL (r:=rEq) yG (yB (r:=j9 K) zH (pv 0) zB (fun _ _=>rfl)) zP (zR _))) (fun _ _ _ _ _ _=>yB (r:=j9 K) zH (pv 0) zB (fun _ _=>rfl))))),?_⟩;refine⟨_,rfl,pr,rfl,⟨_,aQ.of hpr⟩,?_⟩;refine NP hpr hA hz (fun a s' x' r' ha Zb hz=>?_) (fun a s' x' r' ha Zv hz=>?_) (fun pl hpl=>q pl _ (zF hpl _) hpl zC)
 ·exact⟨_,rfl,a,_,_,V.str s',rfl,rfl,aK.of ha,(yQ (j:=0) (v:=V.str s') rfl),(show U4 (V.str s') (V.str ("say" : Str))=true from rfl),_,rfl,hz⟩
 ·exact⟨_,rfl,aF (aK.of ha) ((yQ (j:=1) rfl)) hz⟩
theorem iT:aH ["chart","rooms","letters","entered","starts","told","stand"] ["chart"] (aB qI):=eO
theorem Qi{n m:Nat}{f gi g1 g2 g3 g4 g5:Addr}{fd di d1 d2 d3 d4 d5:FuncData}(F:cY K "begun" "begun" qI f fd)(Mk':Mk K C gi)
  (lM:aM P w K mg base aW m gi di ["self","most"] (Gv C (LL C))) (lK:Binds K di ["self","most"] []) (sy:mg "Letters" = some (.ref C))
  (nJ:Dp P w K mg base aW (m+1) g1 d1 ["rooms","under","goals"] XD "goings_in")
  (tV:Dp P w K mg base aW (m+1) g2 d2 ["steps","boxes","sizes","letters"] (sE C) "stepped")
  (pR:Dp P w K mg base aW (m+1) g3 d3 ["rooms","entered"] (jh En.inn true) "steps_in")
  (pU:Dp P w K mg base aW (m+1) g4 d4 ["chart"] Aq "sizes_of")
  (xG:Dp P w K mg base aW (m+1) g5 d5 ["chart","stand","record","letters"] (vG C n) "rested")
  (aU:mg "tuple" = none) (aR:mg "len" = none):aM P w K mg base aW (m+2) f fd ["chart"] (uU n):=by
 refine F.ok iT (fun vs H Q E h=>?_) (fun cdv A outer s H vs Q E hr h=>?_)
 ·refine aJ fun G_ g_=>?_;obtain⟨pc,c,bs,ne,rfl,_⟩:=h;apply g_;clear g_ G_;rfl
 refine aJ fun G_ g_=>?_;obtain⟨pc,c,bs,ne,rfl,hX,ok,n3,q⟩:=h;apply g_;clear g_ G_
 refine⟨_,(zE (zK (i:=1) iT.nd rfl (Or.inl rfl) (yB zH (pv 0) zB (fun _ _=>rfl)))
  (zE (zK (i:=2) iT.nd rfl (Or.inl rfl) (ug Mk' lM hr rfl sy lK .nil yE (zA (yB zH (pv 0) zB (fun _ _=>rfl)) zD)))
  (zE (zK (i:=3) iT.nd rfl (Or.inl rfl) (pC nJ hr (zA (pv 1) (zA bf (zA (yK zD) zD)))))
  (zE (zK (i:=4) iT.nd rfl (Or.inl rfl) (yA zX rfl aU lV (zA (yT (aX:=[]) rfl (show bD (aB qI) ["chart","rooms","letters","entered","starts","told","stand"] _ _ _ from xN) (pG (yB zH (pv 0) zB (fun _ _=>rfl))) (fun _ _ _ _ _ _=>cD) (fun _ _ _ _ _ _=>(yB (r:=j9 K) zH (pv 0) zB (fun _ _=>rfl)))) zD)))
  (zE (zK (i:=5) iT.nd rfl (Or.inl rfl) (pC tV hr (zA (pC pR hr (zA (pv 1) (zA (pv 3) zD))) (zA (pv 4) (zA (pC pU hr (zA (pv 0) zD)) (zA (pv 2) zD))))))
  (zE (zK (i:=6) iT.nd rfl (Or.inl rfl) (zW (zA (yA zX rfl aU lV (zA (pv 3) zD)) (zA (yB zH (pv 5) zB (fun _ _=>rfl)) (zA (pH (yC Us (zW (zA (zW zD) zD)) (zS zN rfl aR cA (zA (pv 1) zD)))) zD)))))
  (zG (zO (pC xG hr (zA (pv 0) (zA (pv 6) (zA (yB zH (pv 5) zB (fun _ _=>rfl)) (zA (pv 2) zD))))))))))))),?_⟩
 refine aJ fun G_ g_=>?_;obtain⟨pb,pn,t,pd,bv,nv,rv,dv,h1,h2,h3,h4,h5,h6,h7,h8,h9,h10⟩:=id hX;apply g_;clear g_ G_;have hC:=hX.ch ok;have VR:=h7.length;have lbv:=h3.length;have good:=ok.ok.good;have npos:=good.pos;have ld:=yV c.rs;have l10:=ok.l10;have b6:=ok.ok.b6
 have lsz:c.sz.length=bs.length:=by rw[ok.sz,bZ]
 refine⟨_,rfl,aF (aK.of h1) rfl ?_⟩;refine⟨_,rfl,aF (aK.of h1) rfl (fun x dx nx ndx Y0=>⟨x,dx,c.lb,rfl,zC,ok.ok.TQ,fun fp H1 hL1 own rest=>⟨rfl,?_⟩⟩)⟩;obtain⟨s1,ZV⟩:=made nx ndx own rest;clear own rest;refine⟨_,rfl,Nat.zero_le _,fun pg hpg=>?_⟩;have u2:=zF hpg (.lst []);have i2:upd H1 pg (.lst []) pg=some (.lst (aC [])):=zC;generalize upd H1 pg (.lst [])=H2 at u2 i2 ⊢;have s2:=s1.trans u2;refine⟨t,pg,c.rs,none,[],rfl,⟨rv,s2 _ _ h6,h7.mono (aA.of s2)⟩,good,ok.ok.r40,(fun u hu=>by cases hu),⟨i2,(fun g hg=>by cases hg),by decide⟩,fun pe ms H3 u3 npe hpe hms=>?_⟩;have s3:=s2.trans u3
 have mlt:∀ k∈ms,k<c.rs.length:=fun k hk=>by
  have:=hms.lt npos k hk;lia
 have ml:ms.length<=10:=by
  have:=hms.len npos;lia
 refine⟨_,rfl,aF (aK.of (s3 _ _ h1)) rfl ⟨pb,rfl,⟨_,aK.of (s3 _ _ h2)⟩,?_⟩⟩;refine mq (K:=K) (a:=pb) (xs:=bv) (fun i acc H'=>H'=H3/\acc=((bs.map (·.2)).take i).map V.int) ⟨rfl,rfl⟩ (fun i acc H' z=>by rw[z.1];exact aK.of (s3 _ _ h2)) ?_ ?_
 ·rintro i y acc H' hy ⟨rfl,rfl⟩
  have hi:i<bs.length:=by
   have:=(lQ.mp hy).1;lia
  have er:=gq hi;refine aJ fun G_ g_=>?_;obtain⟨v,hv,a,nm,rfl,ha⟩:=h3.get er;apply g_;clear g_ G_;rw[hv]at hy;obtain rfl:=jO hy;refine⟨_,rfl,aF (aK.of (s3 _ _ ha)) rfl ⟨zV (by rw[bZ,jP,bZ];lia),rfl,?_⟩⟩;rw[j8,gf,er,jd];rfl
 rintro acc H' ⟨rfl,rfl⟩ pl4 qFR;rw[show (bs.map (·.2)).take bv.length=bs.map (·.2) from xK (by rw[bZ];lia)];have u4:=zF qFR (.lst ((bs.map (·.2)).map V.int));have i4:upd H' pl4 (.lst ((bs.map (·.2)).map V.int)) pl4=some (.lst ((bs.map (·.2)).map V.int)):=zC;generalize upd H' pl4 (.lst ((bs.map (·.2)).map V.int))=H4 at u4 i4 ⊢;refine⟨pl4,_,rfl,.inl ⟨aQ.of i4,fun ptb qFJ=>?_⟩⟩;have u5:=zF qFJ (.tup ((bs.map (·.2)).map V.int));have i5:upd H4 ptb (.tup ((bs.map (·.2)).map V.int)) ptb=some (.tup ((bs.map (·.2)).map V.int)):=zC;generalize upd H4 ptb (.tup ((bs.map (·.2)).map V.int))=H5 at u5 i5 ⊢;have Wz:=u4.trans u5;have s5:=s3.trans Wz;refine⟨_,rfl,_,rfl,t,pe,c.rs,c.di,c.dO,ms,rfl,⟨rv,s5 _ _ h6,h7.mono (aA.of s5)⟩,h8.mono (aA.of s5),Wz _ _ hpe,mlt,by lia,fun lY Tt H6 u6 Xx Yj ur=>?_⟩;have s6:=s5.trans u6;have ur:Al (pP H6) Tt (ms.map fun r=>(En.inn r,c.di r)):=ur;refine⟨_,rfl,_,rfl,pc,pb,_,_,_,_,_,_,bv,c.sz,rfl,s6 _ _ h1,s6 _ _ h2,(by rw[ok.sz];exact uz.Wl (h3.mono fun _ _ z=>z.mono (aA.of s6))),(by lia),fun tz H7 u7 htz=>?_⟩;have ZM:aG H1 H7:=u2.trans (u3.trans (Wz.trans (u6.trans u7)));have s7:=s1.trans ZM;have hL7:=LL.same hL1 ZM
 have qEV:lY∉fp:=fun z=>by
  have e0:H lY=none:=s5.free Xx;exact LL.new hL1 ((u2.trans (u3.trans Wz)).free Xx) z
 have oks:∀ s∈ms.map (fun r=>(En.inn r,c.di r)),(∀ d∈s.2,d.ok (bs.map (·.2)).length)/\s.2.length<=8:=fun s hs=>by
  refine aJ fun G_ g_=>?_;obtain⟨r,_,rfl⟩:=eQ.mp hs;apply g_;clear g_ G_;rw[bZ,<-lsz];exact ok.ok.ins r
 refine⟨_,rfl,lY,ptb,tz,x,_,_,bs.map (·.2),c.sz,[],fp,c.lb,rfl,u7 _ _ Yj,qEV,ur.mono (fun _ _ z=>z.mono (aA.of u7)),(u6.trans u7) _ _ i5,htz,hL7,oks,(by rw[bZ];lia),(by rw[bZ];lia),(by rw[bZ];lia),ok.ok.pos,Nat.zero_le _,ok.ok.TQ,fun tt tb' pr rv8 fp8 H8 hL8 st8 htt htb hpr Hs Xy hes=>?_⟩
 have toS:∀ {Hx:Hp} {fpx:List Addr},az H7 Hx fp fpx->aG H Hx:=fun st b o e=>st.rest b o (s7 b o e) fun z=>by
  rw[ZV b z]at e
  cases e
 have s8:=toS st8;have pe8:H8 pe=some (.lst (aC ms)):=st8.rest _ _ ((Wz.trans (u6.trans u7)) _ _ hpe) (LL.new hL1 (u2.free npe));refine⟨_,rfl,pe,_,rfl,.inl ⟨aQ.of pe8,fun Dt Yi=>?_⟩⟩;have u9:=zF Yi (.tup (aC ms));have i9:upd H8 Dt (.tup (aC ms)) Dt=some (.tup (aC ms)):=zC;generalize upd H8 Dt (.tup (aC ms))=H9 at u9 i9 ⊢;refine⟨_,rfl,aF (aK.of (u9 _ _ htt)) rfl ?_⟩;refine⟨fun v H'=>∃(pk:Addr)(kv:List V),v = .ref pk/\aG H9 H'/\H' pk=some (.tup kv)/\bV H' kv (List.replicate c.rs.length []),?_,?_⟩
 ·refine⟨Nat.zero_le _,fun q1 hq1=>⟨zI (by show 1<=1000;decide),fun q2 hq2=>?_⟩⟩;have w1:=zF hq1 (.tup []);have j1:upd H9 q1 (.tup []) q1=some (.tup []):=zC;generalize upd H9 q1 (.tup [])=Ha at w1 j1 hq2 ⊢;have w2:=zF hq2 (.tup [V.ref q1]);have j2:upd Ha q2 (.tup [V.ref q1]) q2=some (.tup [V.ref q1]):=zC;generalize upd Ha q2 (.tup [V.ref q1])=Hb at w2 j2 ⊢;refine⟨_,rfl,iZ rfl (.inr (aK.of ((s8.trans (u9.trans (w1.trans w2))) _ _ h6))) ⟨q2,_,[V.ref q1],rfl,rfl,aK.of j2,by simp,by lia,?_,fun k1=>?_,fun k2 p3 hp3=>?_⟩⟩
  ·show ((1:Nat):Int)*(rv.length:Int)<=_;rw[sizeLine_eq];lia
  ·refine⟨q2,_,rfl,w1.trans w2,j2,?_⟩
   have e1:c.rs.length=1:=by lia
   rw[e1];exact .cons ⟨q1,rfl,w2 _ _ j1⟩ .nil
  ·have w3:=zF hp3 (.tup (List.replicate (rv.length:Int).toNat [V.ref q1]).flatten);have j3:upd Hb p3 (.tup (List.replicate (rv.length:Int).toNat [V.ref q1]).flatten) p3=some (.tup (List.replicate (rv.length:Int).toNat [V.ref q1]).flatten):=zC;generalize upd Hb p3 (.tup (List.replicate (rv.length:Int).toNat [V.ref q1]).flatten)=Hc at w3 j3 ⊢;refine⟨p3,_,rfl,w1.trans (w2.trans w3),j3,?_⟩;rw[Tg,VR];exact Dk ((w2.trans w3) _ _ j1) _
 rintro _ SJ aP;refine aJ fun G_ g_=>?_;obtain⟨pk,kv,rfl,u10,Wc,hkv⟩:=aP;apply g_;clear g_ G_;refine⟨zI (by show 3<=1000;decide),fun ps hps=>?_⟩;have X3:=zF hps (.tup [V.ref Dt,V.ref tb',V.ref pk]);have i11:upd SJ ps (.tup [V.ref Dt,V.ref tb',V.ref pk]) ps=some (.tup [V.ref Dt,V.ref tb',V.ref pk]):=zC;generalize upd SJ ps (.tup [V.ref Dt,V.ref tb',V.ref pk])=Wq at X3 i11 ⊢;have Li:=u9.trans (u10.trans X3);have qAJ:az H7 Wq fp fp8:=az.trans st8 (az.same fp8 Li);have T8:=toS qAJ;have hSd:fM Wq ps (rn c bs ms):=⟨Dt,tb',pk,kv,i11,(u10.trans X3) _ _ i9,Li _ _ htb,X3 _ _ Wc,hkv.mono (aA.of X3)⟩;have les:=vC (sz:=c.sz) (m:=c.lb) (bx:=bs.map (·.2)) (l:=[]) fun y hy=>(oks y hy).2;rw[bZ]at les;have sok:jX c (rn c bs ms):=⟨hms.1,mlt,by show ms.length<=40;lia,by show (cC _ _ _ _ _).1.length=_;rw[vD,bZ,lsz],List.length_replicate,Ao (Nat.zero_le _)⟩
 have jw:Jw c (rn c bs ms).os (rn c bs ms).ks:=⟨hms.1,mlt,List.length_replicate,fun r hr=>by
  rw[List.eq_of_mem_replicate hr]
  exact⟨(fun g hg=>by cases hg),by decide⟩⟩
 refine⟨_,rfl,_,rfl,_,rfl,aF (aK.of (Li _ _ htt)) rfl ⟨_,rfl,pc,ps,pr,x,c,rn c bs ms,An c bs ms,rv8,fp8,Jw c,rfl,hC.mono (aA.of T8),⟨ok.ok,wide ok.ok,fun d hd=>⟨(ok.g d hd).1,Nat.le_trans (ok.g d hd).2 n3⟩⟩,hSd,sok,jw,LL.same hL8 Li,Li _ _ hpr,hes.mono (fun _ _ z=>z.mono (aA.of Li)),(by unfold An;lia),(by have:=ok.t4;lia),fun tr ps' pw wv n' es' s' fp' H' RR dn j' so' st' htr hS' wK KJ npf hA' lw=>?_⟩⟩;exact q tr ps' pw wv _ s' H' ⟨ms,n',es',hms,RR,dn,rfl⟩ j' so' (toS (az.trans qAJ st')) htr hS' wK (T8.free KJ) hA' (by rw[<-hA'.length];exact lw)
noncomputable def Ja(c:dC)(ev:Int)(s:S4)(es:List En)(s':S4):Prop:=∃(e1 e2:List En)(s1:S4)(n:Nat),zz c ev s e1 s1/\lL c e1 s1 n e2 s'/\(c.tn<=n∨s'.l=[])/\es=e2++t6 s'.l
theorem Lf{c:dC}{ev:Int}{s s1 s2:S4}{e1 e2:List En}(h1:Ja c ev s e1 s1)(h2:Ja c ev s e2 s2):e1=e2/\s1=s2:=by
 obtain⟨a1,b1,t1,n1,x1,y1,z1,rfl⟩:=h1;obtain⟨a2,b2,t2,n2,x2,y2,z2,rfl⟩:=h2;obtain⟨rfl,rfl⟩:=Cy x1 x2;obtain⟨rfl,rfl⟩:=K5 y1 y2 z1 z2;exact⟨rfl,rfl⟩
noncomputable def uV(n:Nat):Sp:=fun vs H Q _ => ∃(pc ps:Addr)(c:dC)(ev:Int)(s:S4),vs=[.ref pc,.ref ps,.int ev]/\rN H pc c/\All c (Jw c) n/\fM H ps s/\jX c s/\Jw c s.os s.ks/\s.l=[]/\c.tn<=20 ∧
 ∀(t ps' pw:Addr)(wv:List V)(es':List En)(s':S4)(H':Hp),Ja c ev s es' s'->Jw c s'.os s'.ks->jX c s'->aG H H'->H' t=some (.tup [.ref ps',.ref pw])->fM H' ps' s'->H' pw=some (.lst wv)->H pw=none->Al (fO H') wv es'->wv.length<=1000000->Q (.ref t) H'
theorem vM:aH ["chart","stand","event","letters","told"] ["chart","stand","event"] (aB uW):=eO
theorem Qj{n m:Nat}{f g1 g2 gi:Addr}{fd d1 d2 di:FuncData}(F:cY K "after" "after" uW f fd)(cl:uy K C)(Mk':Mk K C gi)
  (lM:aM P w K mg base aW m gi di ["self","most"] (Gv C (LL C))) (lK:Binds K di ["self","most"] []) (sy:mg "Letters" = some (.ref C))
  (JR:Dp P w K mg base aW (m+1) g1 d1 ["chart","stand","event","letters"] (Gq C n) "turn")
  (xG:Dp P w K mg base aW (m+1) g2 d2 ["chart","stand","record","letters"] (vG C n) "rested") :
  aM P w K mg base aW (m+2) f fd ["chart","stand","event"] (uV n):=by
 refine F.ok vM (fun vs H Q E h=>?_) (fun cdv A outer s H vs Q E hr h=>?_)
 ·refine aJ fun G_ g_=>?_;obtain⟨pc,ps,c,ev,s,rfl,_⟩:=h;apply g_;clear g_ G_;rfl
 refine aJ fun G_ g_=>?_;obtain⟨pc,ps,c,ev,st,rfl,hC,al,hS,so,js,l0,T4,q⟩:=h;apply g_;clear g_ G_
 refine⟨_,(zE (zK (i:=3) vM.nd rfl (Or.inl rfl) (ug Mk' lM hr rfl sy lK .nil yE (zA (yB zH (pv 0) zB (fun _ _=>rfl)) zD)))
  (zE (zK (i:=4) vM.nd rfl (Or.inl rfl) (pC JR hr (zA (pv 0) (zA (pv 1) (zA (pv 2) (zA (pv 3) zD))))))
  (zG (zO (pC xG hr (zA (pv 0) (zA (yB zH (pv 4) zB (fun _ _=>rfl)) (zA (yB zH (pv 4) zB (fun _ _=>rfl)) (zA (pv 3) zD))))))))),?_⟩
 refine aJ fun G_ g_=>?_;obtain⟨pb,t,pd,x4,bv,dv,h1,h2,h3,h4,h5,h6,h7⟩:=id hC;apply g_;clear g_ G_;refine⟨_,rfl,aF (aK.of h1) rfl (fun x dx nx ndx Y0=>?_)⟩;refine⟨x,dx,c.lb,rfl,zC,al.ok.TQ,fun fp H1 hL1 own rest=>⟨rfl,?_⟩⟩;obtain⟨s1,ZV⟩:=made nx ndx own rest
 have toS:∀ {H':Hp} {fp':List Addr},az H1 H' fp fp'->aG H H':=fun st b o e=>st.rest b o (s1 b o e) fun z=>by
  rw[ZV b z]at e
  cases e
 refine⟨_,rfl,_,rfl,_,rfl,_,rfl,pc,ps,x,c,ev,st,fp,Jw c,rfl,hC.mono (aA.of s1),al,hS.mono (aA.of s1),so,js,(by rw[l0];exact hL1),fun tt ps2 pr rv s2 es wQ H2 TR j2 hL2 st2 htt hS2 so2 hr2 nr2 nrf2 Wf le2=>?_⟩;have k2:=az.keep st2 hL1;refine⟨_,rfl,_,rfl,aF (aK.of htt) rfl ⟨_,rfl,aF (aK.of htt) rfl ⟨_,rfl,pc,ps2,pr,x,c,s2,es,rv,wQ,Jw c,rfl,hC.mono ((aA.of s1).trans k2),al,hS2,so2,j2,hL2,hr2,Wf,le2,T4,fun t3 ps3 pw wv n' es' s' fp3 H3 RR dn j3 so3 st3 ht3 hS3 hw3 nw3 nwf3 hA3 lw=>?_⟩⟩⟩;have qEG:=az.trans st2 st3;exact q t3 ps3 pw wv _ s' H3 ⟨es,es',s2,n',TR,RR,dn,rfl⟩ j3 so3 (toS qEG) ht3 hS3 hw3 ((toS st2).free nw3) hA3 lw
end
end Ru
namespace Aa
open PySem L2 pQ rG CN S9 JQ jY Ru
open GP (Al)
noncomputable abbrev KS:=List Key ⊕ List (List Key)
noncomputable def T3:bN (List KS) 3:=(bN.sw (fun i=>decide (i<2)) (bN.leaf.tup.up 2 (by decide)) bN.leaf.tup.tup).tup
theorem le3:3<=8:=by decide
noncomputable def dG(s:S4):List KS:=[.inl (s.os.map fun n:Nat=>(.inl (n:Int):Key)),.inl (s.bx.map fun n:Int=>(.inl n:Key)),.inr (s.ks.map fun r:List Nat=>r.map fun n:Nat=>(.inl (n:Int):Key))]
theorem Bo:∀ {a b:List Nat},a.map (fun n:Nat=>(.inl (n:Int):Key))=b.map (fun n:Nat=>(.inl (n:Int):Key))->a=b
 | [],[],_=>rfl
 | [],_::_,h=>by cases h
 | _::_,[],h=>by cases h
 | x::a,y::b,h=>by
  rw[List.map_cons,List.map_cons,List.cons.injEq]at h;obtain⟨h1,h2⟩:=h;have h3:(x:Int)=y:=Sum.inl.inj h1;rw[Bo h2,show x=y by lia]
theorem Kd:∀ {a b:List Int},a.map (fun n:Int=>(.inl n:Key))=b.map (fun n:Int=>(.inl n:Key))->a=b
 | [],[],_=>rfl
 | [],_::_,h=>by cases h
 | _::_,[],h=>by cases h
 | x::a,y::b,h=>by
  rw[List.map_cons,List.map_cons,List.cons.injEq]at h;rw[Kd h.2,show x=y from Sum.inl.inj h.1]
theorem FW:∀ {a b:List (List Nat)},a.map (fun r:List Nat=>r.map fun n:Nat=>(.inl (n:Int):Key))=b.map (fun r:List Nat=>r.map fun n:Nat=>(.inl (n:Int):Key))->a=b
 | [],[],_=>rfl
 | [],_::_,h=>by cases h
 | _::_,[],h=>by cases h
 | x::a,y::b,h=>by
  rw[List.map_cons,List.map_cons,List.cons.injEq]at h;rw[FW h.2,Bo h.1]
noncomputable def nl(s:S4):S4:=⟨s.os,s.bx,s.ks,[]⟩
theorem Qz{s t:S4}(h:dG s=dG t):nl s=nl t:=by
 unfold dG at h;simp only[List.cons.injEq,Sum.inl.injEq,Sum.inr.injEq,and_true]at h;obtain⟨h1,h2,h3⟩:=h;unfold nl;rw[Bo h1,Kd h2,FW h3]
theorem wI(H:Hp):∀(i:Nat)(xs:List Nat),uT bN.leaf H i (xs.map fun n:Nat=>(.inl (n:Int):Key)) (aC xs)
 | _,[]=>.nil
 | i,_::xs=>.cons rfl (wI H (i+1) xs)
theorem FT(H:Hp):∀(i:Nat)(xs:List Int),uT bN.leaf H i (xs.map fun n:Int=>(.inl n:Key)) (xs.map V.int)
 | _,[]=>.nil
 | i,_::xs=>.cons rfl (FT H (i+1) xs)
theorem R6{H:Hp}{kv:List V}{ks:List (List Nat)}(x:bV H kv ks):∀ i:Nat,uT bN.leaf.tup H i (ks.map fun r:List Nat=>r.map fun n:Nat=>(.inl (n:Int):Key)) kv:=by
 induction x with
 | nil=>exact fun _=>.nil
 | cons h _ ih=>
  intro i;obtain⟨a,rfl,ha⟩:=h;exact .cons ⟨a,_,rfl,ha,wI H 0 _⟩ (ih (i+1))
theorem Ih{H:Hp}{ps:Addr}{s:S4}(x:fM H ps s):T3.inn 0 H (dG s) (.ref ps):=by
 obtain⟨po,pb,pk,kv,h1,h2,h3,h4,h5⟩:=x;exact⟨ps,_,rfl,h1,.cons ⟨rfl,po,_,rfl,h2,wI H 0 _⟩ (.cons ⟨rfl,pb,_,rfl,h3,FT H 0 _⟩ (.cons ⟨rfl,pk,kv,rfl,h4,R6 h5 0⟩ .nil))⟩
noncomputable abbrev Fs:=List (S4×List Nat)
noncomputable def rowOf(fs:Fs)(s:S4):Option Nat:=fs.findIdx? fun x=>decide (dG x.1=dG s)
noncomputable def nums:Nat->Fs->List (List KS×V)
 | _,[]=>[]
 | i,x::fs=>(dG x.1,.int (i:Int))::nums (i+1) fs
theorem Cv(s:S4):∀(i:Nat)(fs:Fs),cG (nums i fs) (dG s)=(rowOf fs s).map fun j=>V.int ((i+j:Nat):Int)
 | _,[]=>rfl
 | i,x::fs=>by
  unfold nums rowOf;rw[List.findIdx?_cons]
  by_cases h:dG x.1=dG s
  ·rw[bu (p:=(dG x.1,V.int (i:Int))) h,decide_eq_true h];rfl
  ·rw[bw (p:=(dG x.1,V.int (i:Int))) h,decide_eq_false h,Cv s (i+1) fs];unfold rowOf;rw[if_neg (by decide),Option.map_map];congr 1
   funext j
   show V.int ((i+1+j:Nat):Int)=V.int ((i+(j+1):Nat):Int);rw[show i+1+j=i+(j+1) by lia]
theorem yo(x:S4×List Nat):∀(i:Nat)(fs:Fs),nums i (fs++[x])=nums i fs++[(dG x.1,V.int ((i+fs.length:Nat):Int))]
 | _,[]=>rfl
 | i,y::fs=>by
  show (dG y.1,V.int (i:Int))::nums (i+1) (fs++[x])=(dG y.1,V.int (i:Int))::(nums (i+1) fs++_);rw[yo x (i+1) fs,dz,show i+1+fs.length=i+(fs.length+1) by lia]
theorem Eg:∀(i:Nat)(fs:Fs),(nums i fs).length=fs.length
 | _,[]=>rfl
 | i,x::fs=>by
  show (nums (i+1) fs).length+1=fs.length+1;rw[Eg (i+1) fs]
theorem HH{fs:Fs}{s:S4}{i:Nat}(h:rowOf fs s=some i):∃ t p,fs[i]? = some (t,p)/\nl t=nl s:=by
 unfold rowOf at h;rw[List.findIdx?_eq_some_iff_getElem]at h;obtain⟨hi,h1,_⟩:=h;exact⟨fs[i].1,fs[i].2,by rw[gq hi],Qz (of_decide_eq_true h1)⟩
theorem Q0{fs:Fs}{s:S4}{i:Nat}(h:rowOf fs s=some i):i<fs.length:=by
 obtain⟨t,p,h1,_⟩:=HH h;exact (lQ.mp h1).1
noncomputable def rE(fs:Fs)(s:S4)(p:List Nat):Fs:=match rowOf fs s with
 | some _=>fs
 | none=>fs++[(s,p)]
noncomputable def xY(fs:Fs)(s:S4):Nat:=match rowOf fs s with
 | some i=>i
 | none=>fs.length
theorem dB{fs:Fs}{s:S4}{p:List Nat}{i:Nat}(h:rowOf fs s=some i):rE fs s p=fs/\xY fs s=i:=by
 unfold rE xY;rw[h];exact⟨rfl,rfl⟩
theorem bj{fs:Fs}{s:S4}{p:List Nat}(h:rowOf fs s=none):rE fs s p=fs++[(s,p)]/\xY fs s=fs.length:=by
 unfold rE xY;rw[h];exact⟨rfl,rfl⟩
theorem jy(fs:Fs)(s:S4)(p:List Nat):∃ more,rE fs s p=fs++more/\more.length<=1:=by
 cases h:rowOf fs s with
 | some i=>exact⟨[],by rw[(dB h).1,gQ],Nat.zero_le _⟩
 | none=>exact⟨[(s,p)],(bj h).1,bM _⟩
inductive ao(c:dC)(ne:Nat)(s0:S4):Nat->Fs->List (List En×Nat)->Prop where
 | nil:ao c ne s0 0 [(nl s0,[])] []
 | cell {i:Nat} {fs:Fs} {ms:List (List En×Nat)} {s s':S4} {p:List Nat} {es:List En}:ao c ne s0 i fs ms->0<ne->fs[i/ne]? = some (s,p)->Ja c ((i%ne:Nat):Int) s es s' →
   ao c ne s0 (i+1) (rE fs (nl s') (p++[i%ne])) (ms++[(es,xY fs (nl s'))])
section
variable{c:dC}{ne:Nat}{s0:S4}
theorem ig{i:Nat}{fs:Fs}{ms:List (List En×Nat)}(h:ao c ne s0 i fs ms):ms.length=i:=by
 induction h with
 | nil=>rfl
 | cell _ _ _ _ ih=>rw[dW,ih];rfl
theorem zf{i:Nat}{fs:Fs}{ms:List (List En×Nat)}(h:ao c ne s0 i fs ms):∀ x∈fs,x.2.length<=i:=by
 induction h with
 | nil=>
  intro x hx;rw[cB.mp hx];exact bM _
 | @cell i fs ms s s' p es h h0 h1 h2 ih=>
  intro x hx;have h3:=ih _ (Gf h1)
  cases e:rowOf fs (nl s') with
  | some j=>
   rw[(dB e).1]at hx;have:=ih x hx;lia
  | none=>
   rw[(bj e).1]at hx;rcases cX.mp hx with hx | hx
   ·have:=ih x hx;lia
   ·rw[cB.mp hx,dW,gj];simp only at h3;lia
theorem Bs{i:Nat}{fs:Fs}{ms:List (List En×Nat)}(h:ao c ne s0 i fs ms):∀ x∈fs,x.1.l=[]:=by
 induction h with
 | nil=>
  intro x hx;rw[cB.mp hx];rfl
 | @cell i fs ms s s' p es h h0 h1 h2 ih=>
  intro x hx
  cases e:rowOf fs (nl s') with
  | some j=>
   rw[(dB e).1]at hx;exact ih x hx
  | none=>
   rw[(bj e).1]at hx;rcases cX.mp hx with hx | hx
   ·exact ih x hx
   ·rw[cB.mp hx];rfl
theorem qx{i:Nat}{fs:Fs}{ms:List (List En×Nat)}(h:ao c ne s0 i fs ms):∀ {fs':Fs} {wC:List (List En×Nat)},ao c ne s0 i fs' wC->fs=fs'/\ms=wC:=by
 induction h with
 | nil=>
  intro fs' wC h';generalize hz:(0:Nat)=z at h'
  cases h' with
  | nil=>exact⟨rfl,rfl⟩
  | cell=>lia
 | @cell i fs ms s s' p es h h0 h1 h2 ih=>
  intro fs' wC h';generalize hz:i+1=z at h'
  cases h' with
  | nil=>lia
  | @cell j dI jV t t' q es2 g g0 g1 g2=>
   obtain rfl:i=j:=by lia
   obtain⟨rfl,rfl⟩:=ih g;rw[h1]at g1;obtain⟨rfl,rfl⟩:=Prod.mk.inj (jO g1);obtain⟨rfl,rfl⟩:=Lf h2 g2;exact⟨rfl,rfl⟩
theorem tK{i:Nat}{fs:Fs}{ms:List (List En×Nat)}(h:ao c ne s0 i fs ms):∀ j,j<=i->∃ fs' wC more jV,ao c ne s0 j fs' wC/\fs=fs'++more/\ms=wC++jV/\(j<i->∃ x,fs'[j/ne]? = some x):=by
 induction h with
 | nil=>
  intro j hj
  obtain rfl:j=0:=by lia
  exact⟨_,_,[],[],.nil,by simp,rfl,fun z=>absurd z (Nat.lt_irrefl _)⟩
 | @cell i fs ms s s' p es h h0 h1 h2 ih=>
  intro j hj
  by_cases e:j=i+1
  ·subst e;exact⟨_,_,[],[],.cell h h0 h1 h2,by simp,by simp,fun z=>absurd z (Nat.lt_irrefl _)⟩
  ·obtain⟨fs',wC,more,jV,g1,g2,g3,g4⟩:=ih j (by lia);obtain⟨m2,e2,_⟩:=jy fs (nl s') (p++[i%ne]);refine⟨fs',wC,more++m2,jV++[(es,xY fs (nl s'))],g1,by rw[e2,g2,List.append_assoc],by rw[g3,List.append_assoc],fun _=>?_⟩
   by_cases k:j<i
   ·exact g4 k
   ·obtain rfl:j=i:=by lia
    obtain⟨rfl,_⟩:=qx h g1;exact⟨_,h1⟩
theorem wR{n m:Nat}{fs fs':Fs}{ms wC:List (List En×Nat)}(h:ao c ne s0 (n*ne) fs ms)(e:fs.length=n)(h':ao c ne s0 m fs' wC):m<=n*ne:=by
 by_cases k:m<=n*ne
 ·exact k
 ·obtain⟨f2,m2,more,jV,g1,g2,g3,g4⟩:=tK h' (n*ne) (by lia);obtain⟨rfl,rfl⟩:=qx h g1;obtain⟨x,hx⟩:=g4 (by lia)
  have hne:0<ne:=by
   cases h' with
   | nil=>lia
   | cell _ q _ _=>exact q
  rw[Nat.mul_div_cancel _ hne]at hx;have:=(lQ.mp hx).1;lia
end
theorem Wx{H:Hp}{a:Addr}{o:HO}(h:H a=some o):upd H a o=H:=funext fun b=>by
 by_cases z:b=a
 ·rw[z,zC,h]
 ·exact zQ z
noncomputable def JF(H:Hp)(v:V)(s:S4):Prop:=∃ q:Addr,v = .ref q/\fM H q s
noncomputable def xZ(H:Hp)(v:V)(p:List Nat):Prop:=∃ q:Addr,v = .ref q/\H q=some (.tup (aC p))
theorem JF.mono{H H':Hp}{v:V}{s:S4}(x:JF H v s)(k:aA H H'):JF H' v s:=by
 obtain⟨q,e,h⟩:=x;exact⟨q,e,h.mono k⟩
theorem xZ.mono{H H':Hp}{v:V}{p:List Nat}(x:xZ H v p)(k:aA H H'):xZ H' v p:=by
 obtain⟨q,e,h⟩:=x;exact⟨q,e,k _ _ h⟩
noncomputable def O7(m:Int)(as ap an:Addr):List (Str×V):=cP "numbers" (.ref an) (cP "paths" (.ref ap) (cP "stands" (.ref as) (cP "most" (.int m) [])))
theorem RQ(m:Int)(as ap an:Addr):(O7 m as ap an).lookup ("numbers" : Str)=some (.ref an):=by
 unfold O7;rw[aO,if_pos rfl]
theorem Ks(m:Int)(as ap an:Addr):(O7 m as ap an).lookup ("paths" : Str)=some (.ref ap):=by
 unfold O7;rw[aO,if_neg (by decide +kernel),aO,if_pos rfl]
theorem uG(m:Int)(as ap an:Addr):(O7 m as ap an).lookup ("stands" : Str)=some (.ref as):=by
 unfold O7;rw[aO,if_neg (by decide +kernel),aO,if_neg (by decide +kernel),aO,if_pos rfl]
theorem qCA(m:Int)(as ap an:Addr):(O7 m as ap an).lookup ("most" : Str)=some (.int m):=by
 unfold O7;rw[aO,if_neg (by decide +kernel),aO,if_neg (by decide +kernel),aO,if_neg (by decide +kernel),aO,if_pos rfl]
theorem Kr(m:Int)(as ap an:Addr):(O7 m as ap an).lookup ("row_of" : Str)=none:=by
 unfold O7;rw[aO,if_neg (by decide +kernel),aO,if_neg (by decide +kernel),aO,if_neg (by decide +kernel),aO,if_neg (by decide +kernel)]
 all_goals rfl
structure FD(P:Program)(w:World)(C:Addr)(H:Hp)(p as ap an:Addr)(m:Int)(fs:Fs):Prop where
 ins:∃ dx,H p=some (.ins C dx (O7 m as ap an))
 sts:∃ sv,H as=some (.lst sv)/\Al (JF H) sv (fs.map (·.1))
 pts:∃ pv,H ap=some (.lst pv)/\Al (xZ H) pv (fs.map (·.2))
 num:DN P w T3 le3 H an (nums 0 fs)
 ne:as≠ap
theorem fc{P:Program}{w:World}{K:Type} [DecidableEq K] {d:Nat} {F:bN K d} {le:d<=8} {H:Hp} {a:Addr} {kvs:List (K×V)} (x:DN P w F le H a kvs):∃ φ,H a=some (.ext φ):=by
 obtain⟨xs,_,h,_⟩:=x;exact⟨_,h⟩
section
variable{PP:Program}{w:World}{C:Addr}{H H':Hp}{p as ap an:Addr}{m:Int}{fs:Fs}
theorem FD.mono(x:FD PP w C H p as ap an m fs)(s:aG H H'):FD PP w C H' p as ap an m fs:=by
 obtain⟨⟨dx,h1⟩,⟨sv,h2,h3⟩,⟨pv,h4,h5⟩,h6,h7⟩:=x;have k:=aA.of s;obtain⟨φ,h8⟩:=fc h6;exact⟨⟨dx,s _ _ h1⟩,⟨sv,s _ _ h2,h3.mono fun _ _ z=>z.mono k⟩,⟨pv,s _ _ h4,h5.mono fun _ _ z=>z.mono k⟩,h6.mono (fun b xs z=>s _ _ z) (by rw[h8];exact s _ _ h8),h7⟩
theorem FD.tup(x:FD PP w C H p as ap an m fs){b:Addr}{xs:List V}(h:H b=some (.tup xs)):b∉[as,ap,an]:=by
 obtain⟨_,⟨sv,h2,_⟩,⟨pv,h4,_⟩,h6,_⟩:=x;obtain⟨φ,h8⟩:=fc h6;intro z;rcases bI.mp z with rfl | z
 ·rw[h]at h2;cases h2
 ·rcases bI.mp z with rfl | z
  ·rw[h]at h4;cases h4
  ·rw[cB.mp z,h8]at h;cases h
theorem FD.keep(x:FD PP w C H p as ap an m fs)(s:az H H' [as,ap,an] [as,ap,an]):aA H H':=fun b xs h=>s.rest b _ h (x.tup h)
theorem FD.there(x:FD PP w C H p as ap an m fs):∀ b∈[as,ap,an],H b≠none:=by
 obtain⟨_,⟨sv,h2,_⟩,⟨pv,h4,_⟩,h6,_⟩:=x;obtain⟨φ,h8⟩:=fc h6;intro b hb;rcases bI.mp hb with rfl | hb
 ·rw[h2];exact nofun
 ·rcases bI.mp hb with rfl | hb
  ·rw[h4];exact nofun
  ·rw[cB.mp hb,h8];exact nofun
end
noncomputable def Om(C:Addr):Sp:=fun vs H Q _ => ∃(e a:Addr)(xs:List V),vs=[.ref e,.ref a]/\H e=some (uN e C none)/\H a=some (.lst xs) ∧
 ∀(la dx:Addr),H la=none->H dx=none->la≠dx->la≠e->dx≠e->Q .non (upd (upd (upd H la (.lst xs)) dx (.xd [("ways",.ref la)])) e (uN e C (some dx)))
noncomputable def PL(P:Program)(w:World)(C:Addr):Sp:=fun vs H Q _ => ∃(p dx:Addr)(m:Int),vs=[.ref p,.int m]/\H p=some (.ins C dx []) ∧
 ∀(as ap an:Addr)(H':Hp),FD P w C H' p as ap an m []->H as=none->H ap=none->H an=none->(∀ b o,H b=some o->b≠p->H' b=some o)->Q .non H'
noncomputable def Jh(P:Program)(w:World)(C CT:Addr):Sp:=fun vs H Q E => ∃(p ps pt as ap an:Addr)(m:Int)(fs:Fs)(s:S4)(path:List Nat),vs=[.ref p,.ref ps,.ref pt]/\FD P w C H p as ap an m fs/\fM H ps s/\H pt=some (.tup (aC path))/\fs.length<=1000 ∧
 (∀ i,rowOf fs s=some i->Q (.int (i:Int)) H) ∧
 (rowOf fs s=none->(fs.length:Int)<m->∀ H',FD P w C H' p as ap an m (fs++[(s,path)])->az H H' [as,ap,an] [as,ap,an]->Q (.int (fs.length:Int)) H') ∧
 (rowOf fs s=none->m<=(fs.length:Int)->∀(dx pl:Addr)(pv:List V)(H':Hp),az H H' [as,ap,an] [as,ap,an]->H dx=none->H pl=none->H' dx=some (.xd [("ways",.ref pl)])->H' pl=some (.lst pv)->Al (xZ H') pv ((fs++[(s,path)]).map (·.2))->E (.ref CT) (some dx) H')
section
variable{P:Program}{w:World}{K:bO}{mg:Str->Option Value}{base:Heap}{C CT CE:Addr}
theorem U5:aH ["self","ways"] ["self","ways"] (aB eZ):=eO
theorem Uw{f:Addr}{fd:FuncData}(F:cY K "__init__" "TooWide.__init__" eZ f fd)(hC:pM K C f=true)(q:Vy K C "ways")(Es:mg "NestError" = some (.ref CE))
  (hsp:PySem.W.specialIn K (.ref CE) "__getattribute__" = some (some (.builtin "type.__getattribute__"))) (hrd:PySem.W.readsIn K CE (.type "type")=true) (hf:PySem.W.findCls K (.ref CE) (.type "type") "__init__" = some (.val (.builtin "ValueError.__init__")))
  (ie:mg "list" = none):aM P w K mg base aW 1 f fd ["self","ways"] (Om C):=by
 refine F.ok U5 (fun vs H Q E h=>?_) (fun cdv A outer s H vs Q E hr h=>?_)
 ·refine aJ fun G_ g_=>?_;obtain⟨e,a,xs,rfl,_⟩:=h;apply g_;clear g_ G_;rfl
 refine aJ fun G_ g_=>?_;obtain⟨e,a,xs,rfl,he,ha,k⟩:=h;apply g_;clear g_ G_
 refine⟨_,(zE (Ug rfl Es hsp hrd hf (zA (pv 0) (zA zP zD)))
  (zG (Ud (pv 0) (yA fL rfl ie PyProof.Rows.boot_list (zA (pv 1) zD)) rfl))),?_⟩
 refine⟨_,rfl,e,C,f,none,_,rfl,(by rw[sizeLine_eq];decide),hC,he,?_⟩;rw[Wx he];refine⟨_,rfl,iZ rfl (.inl (aQ.of ha)) (fun la hla=>?_)⟩;have hle:la≠e:=Ne.symm (zM he hla);refine⟨_,rfl,e,C,rfl,(by rw[zQ (Ne.symm hle)];exact he),q,fun dx hdx hde=>?_⟩
 have Ze:la≠dx:=fun z=>by rw[<-z,zC]at hdx;cases hdx
 rw[zQ (Ne.symm Ze)]at hdx;exact k la dx hla hdx Ze hle hde
theorem XF:aH ["self","most"] ["self","most"] (aB iC):=eO
theorem Xu{f:Addr}{fd:FuncData}(F:cY K "__init__" "Finds.__init__" iC f fd)(cl:uy K C)(nM:bR K C "most")(nS:bR K C "stands")(nP:bR K C "paths")(nN:bR K C "numbers") :
  aM P w K mg base aW 1 f fd ["self","most"] (PL P w C):=by
 refine F.ok XF (fun vs H Q E h=>?_) (fun cdv A outer s H vs Q E hr h=>?_)
 ·refine aJ fun G_ g_=>?_;obtain⟨p,dx,m,rfl,_⟩:=h;apply g_;clear g_ G_;rfl
 refine aJ fun G_ g_=>?_;obtain⟨p,dx,m,rfl,hp,k⟩:=h;apply g_;clear g_ G_;refine⟨_,(zE (sU (pv 0) (pv 1) rfl) (zE (sU (pv 0) (yK zD) rfl) (zE (sU (pv 0) (yK zD) rfl) (zG (sU (pv 0) (KC T3 le3) rfl))))),?_⟩;refine⟨_,rfl,_,rfl,p,C,dx,[],rfl,hp,cl,nM,(by show 0<1000;decide),?_⟩;generalize hH1:upd H p (.ins C dx (cP "most" (.int m) []))=H1
 have p1:H1 p=some (.ins C dx (cP "most" (.int m) [])):=by rw[<-hH1];exact zC
 have r1:∀ b,b≠p->H1 b=H b:=fun b z=>by rw[<-hH1];exact zQ z
 refine⟨Nat.zero_le _,fun as has=>?_⟩;have GZ:p≠as:=zM p1 has;refine⟨_,rfl,p,C,dx,_,rfl,(by rw[zQ GZ];exact p1),cl,nS,(by show 1<1000;decide),?_⟩;generalize hH2:upd (upd H1 as (.lst [])) p (.ins C dx (cP "stands" (.ref as) (cP "most" (.int m) [])))=H2
 have p2:H2 p=some (.ins C dx (cP "stands" (.ref as) (cP "most" (.int m) []))):=by rw[<-hH2];exact zC
 have s2:H2 as=some (.lst []):=by rw[<-hH2,zQ (Ne.symm GZ)];exact zC
 have r2:∀ b,b≠p->b≠as->H2 b=H1 b:=fun b z1 z2=>by rw[<-hH2,zQ z1,zQ z2]
 refine⟨Nat.zero_le _,fun ap hap=>?_⟩;have Hz:p≠ap:=zM p2 hap;have nsp:as≠ap:=zM s2 hap;refine⟨_,rfl,p,C,dx,_,rfl,(by rw[zQ Hz];exact p2),cl,nP,(by show 2<1000;decide),?_⟩;generalize TY:upd (upd H2 ap (.lst [])) p (.ins C dx (cP "paths" (.ref ap) (cP "stands" (.ref as) (cP "most" (.int m) []))))=H3
 have p3:H3 p=some (.ins C dx (cP "paths" (.ref ap) (cP "stands" (.ref as) (cP "most" (.int m) [])))):=by rw[<-TY];exact zC
 have a3:H3 ap=some (.lst []):=by rw[<-TY,zQ (Ne.symm Hz)];exact zC
 have r3:∀ b,b≠p->b≠ap->H3 b=H2 b:=fun b z1 z2=>by rw[<-TY,zQ z1,zQ z2]
 have s3:H3 as=some (.lst []):=(r3 as (Ne.symm GZ) nsp).trans s2;intro an H4 han e4 Yv;have nan:p≠an:=zM p3 han;have ZR:as≠an:=zM s3 han;have Xz:ap≠an:=zM a3 han
 have r4:∀ b,b≠an->H4 b=H3 b:=fun b z=>by rw[e4];exact zQ z
 refine⟨_,rfl,p,C,dx,_,rfl,(by rw[r4 p nan];exact p3),cl,nN,(by show 3<1000;decide),?_⟩;generalize Wd:upd H4 p (.ins C dx (cP "numbers" (.ref an) (cP "paths" (.ref ap) (cP "stands" (.ref as) (cP "most" (.int m) [])))))=H5
 have p5:H5 p=some (.ins C dx (O7 m as ap an)):=by rw[<-Wd];exact zC
 have r5:∀ b,b≠p->H5 b=H4 b:=fun b z=>by rw[<-Wd];exact zQ z
 have k5:∀ b o,H b=some o->b≠p->H5 b=some o:=fun b o e z=>by
  have e1:=(r1 b z).trans e;have z1:=zM e1 has;have e2:=(r2 b z z1).trans e1;have z2:=zM e2 hap;have e3:=(r3 b z z2).trans e2;have z3:=zM e3 han;exact (r5 b z).trans ((r4 b z3).trans e3)
 have kt:∀ b xs,H4 b=some (.tup xs)->H5 b=some (.tup xs):=fun b xs e=>(r5 b (fun z=>by rw[z,r4 p nan,p3]at e;cases e)).trans e;refine k as ap an H5 ⟨⟨dx,p5⟩,⟨[],?_,.nil⟩,⟨[],?_,.nil⟩,Yv.mono kt (r5 an (Ne.symm nan)),nsp⟩ ?_ ?_ ?_ k5
 ·exact (r5 as (Ne.symm GZ)).trans ((r4 as ZR).trans s3)
 ·exact (r5 ap (Ne.symm Hz)).trans ((r4 ap Xz).trans a3)
 ·exact (r1 as (Ne.symm GZ)).symm.trans has
 ·exact (r1 ap (Ne.symm Hz)).symm.trans ((r2 ap (Ne.symm Hz) (Ne.symm nsp)).symm.trans hap)
 ·exact (r1 an (Ne.symm nan)).symm.trans ((r2 an (Ne.symm nan) (Ne.symm ZR)).symm.trans ((r3 an (Ne.symm nan) (Ne.symm Xz)).symm.trans han))
theorem Ph:aH ["self","stand","path","row"] ["self","stand","path"] (aB fB):=eO
theorem Xo{n:Nat}{f gi:Addr}{fd di:FuncData}(F:cY K "row_of" "Finds.row_of" fB f fd)(cl:uy K C)(nM:bR K C "most")(nS:bR K C "stands")(nP:bR K C "paths")(nN:bR K C "numbers")
  (hT:pM K CT gi=true) (kT:KI K CT) (oE:mg "TooWide" = some (.ref CT)) (lM:aM P w K mg base (ou P w) n gi di ["self","ways"] (Om CT)) (lK:Binds K di ["self","ways"] []) (aR:mg "len" = none) :
  aM P w K mg base (ou P w) (n+2) f fd ["self","stand","path"] (Jh P w C CT):=by
 refine F.okX Ph (fun vs H Q E h=>?_) (fun cdv A outer s H vs Q E hr h=>?_)
 ·refine aJ fun G_ g_=>?_;obtain⟨p,ps,pt,as,ap,an,m,fs,s,path,rfl,_⟩:=h;apply g_;clear g_ G_;rfl
 refine aJ fun G_ g_=>?_;obtain⟨p,ps,pt,as,ap,an,m,fs,st,path,rfl,hF,hS,Kh,l1,q1,q2,q3⟩:=h;apply g_;clear g_ G_
 refine⟨_,(zE (yD (Q5 (Xi hr.units T3 le3 (pv 1) (bh (pv 0) rfl))) (zG (zO (Ul hr.units T3 le3 (bh (pv 0) rfl) (pv 1) (fun _ _=>rfl)))) zT)
  (zE (zK (i:=3) Ph.nd rfl (Or.inl rfl) (zS zN rfl aR cA (zA (bh (pv 0) rfl) zD)))
  (zE (Uc hr.units T3 le3 (bh (pv 0) rfl) (pv 1) (pv 3) rfl)
  (zE (yI (dJ j7 pY pX yH (bh (pv 0) rfl) (zA (pv 1) zD)))
  (zE (yI (dJ j7 pY pX yH (bh (pv 0) rfl) (zA (pv 2) zD)))
  (zE (yD (zL WR (pv 3) (bh (pv 0) rfl) (zR _)) (zG (Lz Yr rfl rfl oE hT kT lM hr lK .nil (zA (bh (pv 0) rfl) zD))) zT)
  (zG (zO (pv 3))))))))),?_⟩
 refine aJ fun G_ g_=>?_;obtain⟨⟨dx,h1⟩,⟨sv,h2,h3⟩,⟨WL,h4,h5⟩,h6,h7⟩:=id hF;apply g_;clear g_ G_;have ik:=Ih hS;have hv:=Cv st 0 fs;refine⟨_,rfl,_,rfl,p,C,dx,_,_,rfl,h1,cl,nN,RQ _ _ _ _,an,ps,_,dG st,rfl,rfl,h6,ik,_,rfl,?_⟩;rw[hv]
 cases hrow:rowOf fs st with
 | some i=>
  rw[hrow]at hv
  have hv':cG (nums 0 fs) (dG st)=some (.int (i:Int)):=by
   rw[hv];show some (V.int ((0+i:Nat):Int))=_;rw[Nat.zero_add]
  refine oR (fun _=>?_) (fun z=>absurd rfl z);exact⟨_,rfl,p,C,dx,_,_,rfl,h1,cl,nN,RQ _ _ _ _,_,rfl,an,ps,_,dG st,_,rfl,rfl,h6,ik,hv',q1 i hrow⟩
 | none=>
  rw[hrow]at hv;refine oR (fun z=>(by cases z)) (fun _=>?_);have ls:=h3.length;have lp:=h5.length;rw[bZ]at ls lp;refine⟨_,rfl,p,C,dx,_,_,rfl,h1,cl,nS,uG _ _ _ _,iZ rfl (.inl (aQ.of h2)) ?_⟩;rw[ls];obtain⟨φ,h8⟩:=fc h6;have ZR:as≠an:=bz h2 h8 nofun;have Xz:ap≠an:=bz h4 h8 nofun;have npi:p≠an:=bz h1 h8 nofun;refine⟨_,rfl,_,rfl,p,C,dx,_,_,rfl,h1,cl,nN,RQ _ _ _ _,_,rfl,an,ps,_,dG st,rfl,rfl,h6,ik,zV (by rw[Eg];lia),hv,fun o ho Zj=>?_⟩;obtain⟨ψ,rfl⟩:=ho;generalize hH1:upd H an (.ext ψ)=H1 at Zj ⊢
  have r1:∀ b,b≠an->H1 b=H b:=fun b z=>by rw[<-hH1];exact zQ z
  have n1:H1 an=some (.ext ψ):=by rw[<-hH1];exact zC
  have p1:=(r1 p npi).trans h1;refine⟨_,rfl,p,C,dx,_,_,rfl,p1,cl,nS,uG _ _ _ _,.inl ⟨rfl,_,aQ.of ((r1 as ZR).trans h2)⟩,_,rfl,as,_,_,rfl,rfl,(r1 as ZR).trans h2,zV (by lia),?_⟩;have nps:p≠as:=bz h1 h2 nofun;have npp:p≠ap:=bz h1 h4 nofun;generalize hH2:upd H1 as (.lst (sv++[.ref ps]))=H2
  have r2:∀ b,b≠as->H2 b=H1 b:=fun b z=>by rw[<-hH2];exact zQ z
  have s2:H2 as=some (.lst (sv++[.ref ps])):=by rw[<-hH2];exact zC
  have p2:=(r2 p nps).trans p1;have a2:H2 ap=some (.lst WL):=(r2 ap (Ne.symm h7)).trans ((r1 ap Xz).trans h4);refine⟨_,rfl,p,C,dx,_,_,rfl,p2,cl,nP,Ks _ _ _ _,.inl ⟨rfl,_,aQ.of a2⟩,_,rfl,ap,_,_,rfl,rfl,a2,zV (by lia),?_⟩;generalize TY:upd H2 ap (.lst (WL++[.ref pt]))=H3
  have r3:∀ b,b≠ap->H3 b=H2 b:=fun b z=>by rw[<-TY];exact zQ z
  have p3:=(r3 p npp).trans p2
  have a3:H3 ap=some (.lst (WL++[.ref pt])):=by rw[<-TY];exact zC
  have s3:H3 as=some (.lst (sv++[.ref ps])):=(r3 as h7).trans s2;have n3:H3 an=some (.ext ψ):=(r3 an (Ne.symm Xz)).trans ((r2 an (Ne.symm ZR)).trans n1)
  have st3:az H H3 [as,ap,an] [as,ap,an]:=⟨fun b hb=>.inl hb,fun b o e nb=>by
   rw[r3 b (fun z=>nb (by rw[z];simp)),r2 b (fun z=>nb (by rw[z];simp)),r1 b (fun z=>nb (by rw[z];simp))]
   exact e⟩
  have kt:=hF.keep st3
  have kt1:∀ b xs,H1 b=some (.tup xs)->H3 b=some (.tup xs):=fun b xs e=>by
   have z1:b≠an:=fun z=>by rw[z,n1]at e;cases e
   rw[r1 b z1]at e;exact kt b xs e
  have F3:FD P w C H3 p as ap an m (fs++[(st,path)]):=by
   refine⟨⟨dx,p3⟩,⟨_,s3,?_⟩,⟨_,a3,?_⟩,?_,h7⟩
   ·rw[jd];exact (h3.mono fun _ _ z=>z.mono kt).snoc ⟨ps,rfl,hS.mono kt⟩
   ·rw[jd];exact (h5.mono fun _ _ z=>z.mono kt).snoc ⟨pt,rfl,kt _ _ Kh⟩
   ·rw[yo,Nat.zero_add];exact Zj.mono kt1 (by rw[n3,n1])
  refine⟨_,rfl,_,rfl,p,C,dx,_,_,rfl,p3,cl,nM,qCA _ _ _ _,_,_,rfl,rfl,_,rfl,?_⟩;refine oR (fun z=>?_) (fun z=>?_)
  ·have z':=of_decide_eq_true z;refine⟨_,rfl,p,C,dx,_,_,rfl,p3,cl,nP,Ks _ _ _ _,(zI (by show 1<=1000;decide)),fun e he=>?_⟩;refine⟨e,ap,_,rfl,zC,(by rw[zQ (zM a3 he)];exact a3),fun la ld hla Ze n1 n2 n3=>⟨rfl,some ld,zC,?_⟩⟩;rw[zQ n2]at hla;rw[zQ n3]at Ze;generalize Wd:upd (upd H3 la (.lst (WL++[.ref pt]))) ld (.xd [("ways",.ref la)])=H5
   have e5:del (upd (upd (upd (upd H3 e (uN e CT none)) la (.lst (WL++[.ref pt]))) ld (.xd [("ways",.ref la)])) e (uN e CT (some ld))) e=H5:=by
    rw[<-Wd]
    funext b
    by_cases zb:b=e
    ·subst zb;rw[cQ,zQ (Ne.symm n3),zQ (Ne.symm n2),he]
    ·rw[bB zb,zQ zb]
     by_cases y1:b=ld
     ·subst y1;rw[zC,zC]
     ·rw[zQ y1,zQ y1]
      by_cases y2:b=la
      ·subst y2;rw[zC,zC]
      ·rw[zQ y2,zQ y2,zQ zb]
   rw[e5]
   have s5:aG H3 H5:=fun b o eb=>by rw[<-Wd,zQ (zM eb Ze),zQ (zM eb hla)];exact eb
   have WT:∀ b,H3 b=none->H b=none:=fun b e=>by
    cases hb:H b with
    | none=>rfl
    | some o=>
     by_cases y:b∈[as,ap,an]
     ·exact absurd e (F3.there b y)
     ·rw[st3.rest b o hb y]at e;cases e
   refine q3 hrow z' ld la (WL++[.ref pt]) H5 ⟨fun b hb=>.inl hb,fun b o eb nb=>s5 b o (st3.rest b o eb nb)⟩ (WT ld Ze) (WT la hla) (by rw[<-Wd];exact zC) (by rw[<-Wd,zQ n1];exact zC) ?_;rw[jd];exact (h5.mono fun _ _ y=>(y.mono kt).mono (aA.of s5)).snoc ⟨pt,rfl,s5 _ _ (kt _ _ Kh)⟩
  ·have z':¬ m<=(fs.length:Int):=fun y=>z (decide_eq_true y);exact⟨_,rfl,q2 hrow (by lia) H3 F3 st3⟩
end
noncomputable def jE(rs:List Rm)(os:List Nat):List Str:=(os.map fun o=>(rs.map (·.Ey)).getD o ("" : Str)).filter fun z => !decide (z=("" : Str))
noncomputable def Jk:Sp:=fun vs H Q _ => ∃(t rO:Addr)(rs:List Rm)(os:List Nat),vs=[.ref t,.ref rO]/\cW H t rs/\H rO=some (.tup (aC os))/\(∀ o∈os,o<rs.length)/\os.length<=40/\rs.length<=40 ∧
 ∀(p:Addr)(H':Hp),aG H H'->H' p=some (.tup ((jE rs os).map V.str))->Q (.ref p) H'
theorem Bk{rs:List Rm}{os:List Nat}{i o:Nat}{r:Rm}(h:os[i]? = some o)(hr:rs[o]? = some r):jE rs (os.take (i+1))=jE rs (os.take i)++(if (!decide (r.Ey=("" : Str)))=true then [r.Ey] else []):=by
 unfold jE;rw[j8,h,jd,List.filter_append];congr 1;show [(rs.map (·.Ey)).getD o ("" : Str)].filter _=_
 rw[show (rs.map (·.Ey)).getD o ("" : Str)=r.Ey by
  rw[lX,gf,hr]
  rfl]
 rw[List.filter_cons]
 split <;> rfl
theorem Ex(rs:List Rm)(os:List Nat):(jE rs os).length<=os.length:=by
 unfold jE;refine Nat.le_trans (rT _ _) ?_;rw[bZ];exact bM _
theorem qDK(a b:Str):decide (V.str a=V.str b)=decide (a=b):=decide_eq_decide.mpr ⟨fun h=>by injection h,fun h=>by rw[h]⟩
noncomputable def Wide(CT:Addr)(fp:List Addr)(H:Hp)(E:XK)(ps:List (List Nat)):Prop:=∀(dx pl:Addr)(pv:List V)(H':Hp),az H H' fp fp->H dx=none->H pl=none->H' dx=some (.xd [("ways",.ref pl)])->H' pl=some (.lst pv)->Al (xZ H') pv ps->E (.ref CT) (some dx) H'
noncomputable def JK(H:Hp)(v:V)(m:List En×Nat):Prop:=∃(a aw:Addr),v = .ref a/\H a=some (.tup [.ref aw,.int (m.2:Int)])/\H aw=some (.tup ((cg m.1).map V.str))
theorem JK.mono{H H':Hp}{v:V}{m:List En×Nat}(x:JK H v m)(k:aA H H'):JK H' v m:=by
 obtain⟨a,aw,h1,h2,h3⟩:=x;exact⟨a,aw,h1,k _ _ h2,k _ _ h3⟩
noncomputable def Ov(P:Program)(w:World)(C CT:Addr)(n:Nat):Sp:=fun vs H Q E => ∃(pc p as ap an:Addr)(r e:Nat)(m:Int)(c:dC)(fs:Fs)(s:S4)(path:List Nat),vs=[.ref pc,.ref p,.int (r:Int),.int (e:Int)]/\rN H pc c/\All c (Jw c) n/\c.tn<=20 ∧
 FD P w C H p as ap an m fs/\fs.length<=1000/\fs[r]? = some (s,path)/\jX c s/\Jw c s.os s.ks/\s.l=[]/\path.length<=100000 ∧
 ∀(es:List En)(s':S4),Ja c (e:Int) s es s'->jX c s'->Jw c s'.os s'.ks →
  (((rE fs (nl s') (path++[e])).length:Int)<=m∨rE fs (nl s') (path++[e])=fs->∀(v:V)(H':Hp),JK H' v (es,xY fs (nl s'))->FD P w C H' p as ap an m (rE fs (nl s') (path++[e]))->az H H' [as,ap,an] [as,ap,an]->Q v H') ∧
  (rowOf fs (nl s')=none->m<=(fs.length:Int)->Wide CT [as,ap,an] H E ((fs++[(nl s',path++[e])]).map (·.2)))
section
variable{P:Program}{w:World}{K:bO}{mg:Str->Option Value}{base:Heap}{C CT:Addr}
theorem Pj:aH ["rooms","opening"] ["rooms","opening"] (aB vQ):=eO
theorem Qc{f:Addr}{fd:FuncData}(F:cY K "lamps" "lamps" vQ f fd)(aU:mg "tuple" = none):aM P w K mg base aW 1 f fd ["rooms","opening"] Jk:=by
 refine F.ok Pj (fun vs H Q E h=>?_) (fun cdv A outer s H vs Q E hr h=>?_)
 ·refine aJ fun G_ g_=>?_;obtain⟨t,rO,rs,os,rfl,_⟩:=h;apply g_;clear g_ G_;rfl
 refine aJ fun G_ g_=>?_;obtain⟨t,rO,rs,os,rfl,hR,hto,hos,ZX,oh,q⟩:=h;apply g_;clear g_ G_;refine⟨_,(zG (zO (yA zX rfl aU lV (zA (yT (aX:=[(0,"rooms")]) rfl (show bD (aB vQ) ["rooms","opening"] _ _ _ from xN) (pG (pv 1)) (fun _ _ _ _ _ _=>fG (zL ym (yB (r:=j9 K) zH (yB (r:=j9 K) zH (pv 1) (pv 0) (fun _ _=>rfl)) zB (fun _ _=>rfl)) zP (zR _))) (fun _ _ _ _ _ _=>(yB (r:=j9 K) zH (yB (r:=j9 K) zH (pv 1) (pv 0) (fun _ _=>rfl)) zB (fun _ _=>rfl)))) zD)))),?_⟩;refine⟨_,rfl,rO,rfl,⟨_,aK.of hto⟩,?_⟩;refine mq (K:=K) (a:=rO) (xs:=aC os) (fun i acc H'=>H'=H/\acc=(jE rs (os.take i)).map V.str) ⟨rfl,rfl⟩ (fun i acc H' ⟨e,_⟩=>by subst e;exact aK.of hto) (fun i x acc H' hx ⟨e1,e2⟩=>?_) (fun acc H' ⟨e1,e2⟩ p hp=>?_)
 ·subst e1 e2
  have hi:i<os.length:=by
   have:=(lQ.mp hx).1;rw[zU]at this;exact this
  have eo:=gq hi
  obtain rfl:x = .int ((os[i]:Nat):Int):=by
   unfold aC at hx;rw[gf,eo]at hx;exact (jO hx).symm
  refine aJ fun G_ g_=>?_;obtain⟨vs,a,r,ht,hl,hr0,hat,ha⟩:=hR.at (hos _ (je hi));apply g_;clear g_ G_;have ll:=Ex rs (os.take i);rw[jP]at ll;have sc:=Bk eo hr0;refine⟨_,rfl,_,rfl,t,vs,_,_,rfl,rfl,aK.of ht,hat,aF (aK.of ha) rfl ⟨rfl,_,rfl,?_⟩⟩;refine fH (fun c=>?_) (fun c=>?_)
  ·rw[qDK]at c;rw[if_pos c]at sc;refine⟨_,rfl,_,rfl,t,vs,_,_,rfl,rfl,aK.of ht,hat,aF (aK.of ha) rfl ⟨zV (by rw[bZ];lia),rfl,?_⟩⟩;rw[sc,jd];rfl
  ·rw[qDK]at c;rw[if_neg (by rw[c];decide),gQ]at sc;exact⟨rfl,by rw[sc]⟩
 subst e1 e2;rw[xK (by rw[zU];exact bM _)];refine⟨p,_,rfl,.inl ⟨aQ.of zC,fun p2 hp2=>?_⟩⟩;exact q p2 _ ((zF hp _).trans (zF hp2 _)) zC
theorem Js:aH ["chart","finds","row","event","told"] ["chart","finds","row","event"] (aB BP):=eO
theorem V2{n m':Nat}{f g1 g2 g3:Addr}{fd d1 d2 d3:FuncData}(F:cY K "move" "move" BP f fd)(cl:uy K C)(nS:bR K C "stands")(nP:bR K C "paths")(mR:Meth K C "row_of" g3)
  (rK:Dp P w K mg base aW m' g1 d1 ["chart","stand","event"] (uV n) "after")
  (JS:Dp P w K mg base aW m' g2 d2 ["record"] Gr "said")
  (Ae:aM P w K mg base (ou P w) m' g3 d3 ["self","stand","path"] (Jh P w C CT)) (zx:Binds K d3 ["self","stand","path"] [])
  (aU:mg "tuple" = none):aM P w K mg base (ou P w) (m'+1) f fd ["chart","finds","row","event"] (Ov P w C CT n):=by
 refine F.okX Js (fun vs H Q E h=>?_) (fun cdv A outer s H vs Q E hr h=>?_)
 ·refine aJ fun G_ g_=>?_;obtain⟨pc,p,as,ap,an,r,e,m,c,fs,s,path,rfl,_⟩:=h;apply g_;clear g_ G_;rfl
 refine aJ fun G_ g_=>?_;obtain⟨pc,p,as,ap,an,r,e,m,c,fs,st,path,rfl,hC,al,T4,hF,l1,hr0,so,js,l0,lp,q⟩:=h;apply g_;clear g_ G_
 refine⟨_,(zE (zK (i:=4) Js.nd rfl (Or.inl rfl) (pC rK hr (zA (pv 0) (zA (yB yU (bh (pv 1) rfl) (pv 2) (fun _ _=>rfl)) (zA (pv 3) zD)))))
  (zG (zO (zW (zA (yA zX rfl aU lV (zA (pC JS hr (zA (yB zH (pv 4) zB (fun _ _=>rfl)) zD)) zD))
   (zA (qd (pv 1) cl mR Ae hr zx .nil (QL fun _ _ _ z=>z) (zA (yB zH (pv 4) zB (fun _ _=>rfl)) (zA (pH (yC (jZ.or uh w6) (yB yU (bh (pv 1) rfl) (pv 2) (fun _ _=>rfl)) (zW (zA (pv 3) zD)))) zD))) zD)))))),?_⟩
 refine aJ fun G_ g_=>?_;obtain⟨⟨dx,h1⟩,⟨sv,h2,h3⟩,⟨WL,h4,h5⟩,h6,h7⟩:=id hF;obtain⟨v0,hv0,q0,rfl,hq0⟩:=h3.get (k:=r) (r:=st) (by rw[gf,hr0];rfl);obtain⟨v1,hv1,q1,rfl,hq1⟩:=h5.get (k:=r) (r:=path) (by rw[gf,hr0];rfl);apply g_;clear g_ G_;refine⟨_,rfl,_,rfl,p,C,dx,_,_,rfl,h1,cl,nS,uG _ _ _ _,_,rfl,bY (aQ.of h2) (yQ hv0) ⟨_,rfl,pc,q0,c,(e:Int),st,rfl,hC,al,hq0,so,js,l0,T4,fun t ps' pw wv es s' H1 AR j' so' s1 ht hS' wK KJ hA lw=>?_⟩⟩;obtain⟨k1,k2⟩:=q es s' AR so' j';have F1:=hF.mono s1
 have leS:es.length<=2000000:=by rw[<-hA.length];lia
 refine⟨_,rfl,aF (aK.of ht) rfl ⟨pw,wv,es,rfl,wK,hA,leS,fun pl2 H2 s2 npl qFS=>?_⟩⟩;refine⟨pl2,_,rfl,.inl ⟨aQ.of qFS,fun tw htw=>?_⟩⟩;have s3:=zF htw (.tup ((cg es).map V.str));have i3:upd H2 tw (.tup ((cg es).map V.str)) tw=some (.tup ((cg es).map V.str)):=zC;generalize upd H2 tw (.tup ((cg es).map V.str))=H3 at s3 i3 ⊢;have uf:=s2.trans s3;have UJ:=s1.trans uf;have F3:=hF.mono UJ;refine⟨_,rfl,p,dx,_,rfl,UJ _ _ h1,Kr _ _ _ _,_,rfl,aF (aK.of (uf _ _ ht)) rfl ?_⟩;refine⟨fun v H'=>∃ q:Addr,v = .ref q/\aG H3 H'/\H' q=some (.tup (aC (path++[e]))),?_,?_⟩
 ·refine⟨_,rfl,p,C,dx,_,_,rfl,UJ _ _ h1,cl,nP,Ks _ _ _ _,_,rfl,bY (aQ.of (UJ _ _ h4)) (yQ hv1) ⟨_,rfl,(zI (by show 1<=1000;decide)),fun pe hpe=>?_⟩⟩;have s4:=zF hpe (.tup [V.int (e:Int)]);have i4:upd H3 pe (.tup [V.int (e:Int)]) pe=some (.tup [V.int (e:Int)]):=zC;generalize upd H3 pe (.tup [V.int (e:Int)])=H4 at s4 i4 ⊢;have TX:=s4 _ _ (UJ _ _ hq1)
  cases path with
  | nil=>exact .inr ⟨q1,pe,_,rfl,rfl,aK.of TX,aK.of i4,pe,rfl,s4,i4⟩
  | cons x path=>
   refine .inl ⟨q1,pe,_,_,rfl,rfl,aK.of TX,aK.of i4,(by intro z;cases z),?_,(fun z=>by cases z),fun _ p5 O6=>?_⟩
   ·rw[sizeLine_eq,zU];simp only[List.length_cons,List.length_nil]at lp ⊢;lia
   ·exact⟨p5,rfl,s4.trans (zF O6 _),by rw[zC];unfold aC;rw[jd];rfl⟩
 rintro _ H4 aP;refine aJ fun G_ g_=>?_;obtain⟨pq,rfl,s4,hpq⟩:=aP;apply g_;clear g_ G_;have Di:=uf.trans s4;have GX:=s1.trans Di;have F4:=hF.mono GX;refine⟨p,ps',pq,as,ap,an,m,fs,nl s',path++[e],rfl,F4,(fM.tail hS' []).mono (aA.of Di),hpq,l1,fun i hi=>?_,fun hn hlt H5 F5 rQ=>?_,fun hn hle dx2 pl pv H5 rQ z1 z2 z3 z4 z5=>?_⟩
 ·obtain⟨e1,e2⟩:=dB (p:=path++[e]) hi;refine⟨zI (by show 2<=1000;decide),fun pt Kh=>?_⟩;have s5:=zF Kh (.tup [V.ref tw,V.int (i:Int)]);refine k1 (.inr e1) _ _ ⟨pt,tw,rfl,by rw[e2];exact zC,s5 _ _ (s4 _ _ i3)⟩ (by rw[e1];exact F4.mono s5) ⟨fun b hb=>.inl hb,fun b o eb _=>s5 _ _ (GX _ _ eb)⟩
 ·obtain⟨e1,e2⟩:=bj (p:=path++[e]) hn;refine⟨zI (by show 2<=1000;decide),fun pt Kh=>?_⟩;have s5:=zF Kh (.tup [V.ref tw,V.int (fs.length:Int)]);have tw5:H5 tw=some (.tup ((cg es).map V.str)):=F4.keep rQ _ _ (s4 _ _ i3);refine k1 (.inl (by rw[e1,dW,gj];lia)) _ _ ⟨pt,tw,rfl,by rw[e2];exact zC,s5 _ _ tw5⟩ (by rw[e1];exact F5.mono s5) ⟨fun b hb=>.inl hb,fun b o eb nb=>s5 _ _ (rQ.rest b o (GX _ _ eb) nb)⟩
 ·exact k2 hn hle dx2 pl pv H5 ⟨fun b hb=>.inl hb,fun b o eb nb=>rQ.rest b o (GX _ _ eb) nb⟩ (GX.free z1) (GX.free z2) z3 z4 z5
noncomputable def jL(H:Hp)(v:V)(x:List Str×List (List En×Nat)):Prop:=∃(a al am:Addr)(mv:List V),v = .ref a/\H a=some (.tup [.ref al,.ref am])/\H al=some (.tup (x.1.map V.str))/\H am=some (.tup mv)/\Al (JK H) mv x.2
theorem jL.mono{H H':Hp}{v:V}{x:List Str×List (List En×Nat)}(y:jL H v x)(k:aA H H'):jL H' v x:=by
 obtain⟨a,al,am,mv,h1,h2,h3,h4,h5⟩:=y;exact⟨a,al,am,mv,h1,k _ _ h2,k _ _ h3,k _ _ h4,h5.mono fun _ _ z=>z.mono k⟩
noncomputable def rowAt(c:dC)(ne:Nat)(fs:Fs)(ms:List (List En×Nat))(k:Nat):List Str×List (List En×Nat):=(jE c.rs (fs[k]?.elim [] (·.1.os)),(ms.drop (k*ne)).take ne)
noncomputable def rowsOf(c:dC)(ne:Nat)(fs:Fs)(ms:List (List En×Nat))(n:Nat):List (List Str×List (List En×Nat)):=(List.range n).map (rowAt c ne fs ms)
theorem Lw{c:dC}{ne k:Nat}{fs more:Fs}{ms jV:List (List En×Nat)}(h1:k<fs.length)(h2:(k+1)*ne<=ms.length):rowAt c ne (fs++more) (ms++jV) k=rowAt c ne fs ms k:=by
 unfold rowAt;rw[Ck h1];rw[Nat.add_mul,Nat.one_mul]at h2;congr 1;rw[List.drop_append_of_le_length (by lia),List.take_append_of_le_length (by rw[List.length_drop];lia)]
theorem HF{c:dC}{ne n:Nat}{fs more:Fs}{ms jV:List (List En×Nat)}(h1:n<=fs.length)(h2:n*ne<=ms.length):rowsOf c ne (fs++more) (ms++jV) n=rowsOf c ne fs ms n:=by
 unfold rowsOf;refine List.map_congr_left fun k hk=>?_;have hk:=List.mem_range.mp hk;exact Lw (by lia) (Nat.le_trans (Nat.mul_le_mul_right _ hk) h2)
theorem Dl{c:dC}{ne n:Nat}{fs:Fs}{ms:List (List En×Nat)}:rowsOf c ne fs ms (n+1)=rowsOf c ne fs ms n++[rowAt c ne fs ms n]:=by
 unfold rowsOf;rw[List.range_succ,jd];rfl
noncomputable def gZ(c:dC)(fs:Fs):Prop:=∀ x∈fs,jX c x.1/\Jw c x.1.os x.1.ks
theorem Az{c:dC}{s:S4}(h:jX c s):jX c (nl s):=⟨h.inc,h.lt,h.VH,h.bx,h.ks,Nat.zero_le _⟩
theorem gZ.add{c:dC}{fs:Fs}{s:S4}{p:List Nat}(h:gZ c fs)(h1:jX c s)(h2:Jw c s.os s.ks):gZ c (rE fs (nl s) p):=by
 cases e:rowOf fs (nl s) with
 | some i=>rw[(dB e).1];exact h
 | none=>
  rw[(bj e).1];intro x hx;rcases cX.mp hx with hx | hx
  ·exact h x hx
  ·rw[cB.mp hx];exact⟨Az h1,h2⟩
noncomputable def PK(CT:Addr)(n:Nat):Sp:=fun vs H Q E => ∃(pc:Addr)(m:Nat)(c:dC)(bs:List (Int×Int))(ne:Nat),vs=[.ref pc,.int (m:Int)]/\uz.Tf H pc c bs ne/\uz.Ah c bs/\3<=n/\1<=m/\m<=300/\ne<=8 ∧
 ∀(bF:List En)(s0:S4),Nz c bs bF s0->bF.length<=1000000 →
  (∀(N:Nat)(fs:Fs)(ms:List (List En×Nat))(t tw pr as:Addr)(rv sv:List V)(H':Hp),ao c ne s0 (N*ne) fs ms->fs.length=N->N<=m->gZ c fs->H' t=some (.tup [.ref tw,.ref pr,.ref as])->H' tw=some (.tup ((cg bF).map V.str)) →
   H' pr=some (.lst rv)->Al (jL H') rv (rowsOf c ne fs ms N)->H' as=some (.lst sv)->Al (JF H') sv (fs.map (·.1))->aG H H'->H pr=none->H as=none->pr≠as->Q (.ref t) H') ∧
  (∀(i:Nat)(fs:Fs)(ms:List (List En×Nat)),ao c ne s0 i fs ms->fs.length=m+1->Wide CT [] H E (fs.map (·.2)))
theorem nO:aH ["chart","most","finds","told","rows","row","moves"] ["chart","most"] (aB vO):=eO
theorem V8{n m':Nat}{f gi g1 g2 g3 g4 g5:Addr}{fd di d1 d2 d3 d4 d5:FuncData}(F:cY K "flat" "flat" vO f fd)(cl:uy K C)(nS:bR K C "stands")(mR:Meth K C "row_of" g3)(MkF:Mk K C gi)
  (lM:aM P w K mg base aW m' gi di ["self","most"] (PL P w C)) (lK:Binds K di ["self","most"] []) (Bh:mg "Finds" = some (.ref C))
  (rJ:Dp P w K mg base aW (m'+1) g1 d1 ["chart"] (uU n) "begun")
  (JS:Dp P w K mg base aW (m'+1) g2 d2 ["record"] Gr "said")
  (Ae:aM P w K mg base (ou P w) (m'+1) g3 d3 ["self","stand","path"] (Jh P w C CT)) (zx:Binds K d3 ["self","stand","path"] [])
  (Ca:Dp P w K mg base (ou P w) (m'+1) g4 d4 ["chart","finds","row","event"] (Ov P w C CT n) "move")
  (W0:Dp P w K mg base aW (m'+1) g5 d5 ["rooms","opening"] Jk "lamps")
  (aR:mg "len" = none) (aY:mg "range" = none) (aU:mg "tuple" = none):aM P w K mg base (ou P w) (m'+2) f fd ["chart","most"] (PK CT n):=by
 refine F.okX nO (fun vs H Q E h=>?_) (fun cdv A outer s H vs Q E hr h=>?_)
 ·refine aJ fun G_ g_=>?_;obtain⟨pc,m,c,bs,ne,rfl,_⟩:=h;apply g_;clear g_ G_;rfl
 refine aJ fun G_ g_=>?_;obtain⟨pc,m,c,bs,ne,rfl,hX,ok,n3,m1,qF2,VM,q⟩:=h;apply g_;clear g_ G_
 refine⟨_,(zE (zK (i:=2) nO.nd rfl (Or.inr rfl) (ug MkF lM hr rfl Bh lK .nil yE (zA (pv 1) zD)))
  (zE (zK (i:=3) nO.nd rfl (Or.inl rfl) (pC rJ hr (zA (pv 0) zD)))
  (zE (yI (qd (pv 2) cl mR Ae hr zx .nil (QL fun _ _ _ z=>z) (zA (yB zH (pv 3) zB (fun _ _=>rfl)) (zA (zW zD) zD))))
  (zE (zK (i:=4) nO.nd rfl (Or.inl rfl) (yK zD))
  (zZ (Q8 (WN fun _ _ _ z=>z) (mQ (Bt rfl rfl) (zL lR (zS zN rfl aR cA (zA (pv 4) zD)) (zS zN rfl aR cA (zA (bh (pv 2) rfl) zD)) (zR _))
  (zE (zK (i:=5) nO.nd rfl (Or.inr rfl) (zS zN rfl aR cA (zA (pv 4) zD)))
  (zE (Q7 (i:=6) (aX:=[(0,"chart"),(2,"finds"),(5,"row")]) (Xj fun _ _ _ z=>z) rfl nO.nd rfl (Or.inl rfl) (show bD (aB vO) ["chart","most","finds","told","rows","row","moves"] _ _ _ from xN)
    (bT rfl aY (zA (zS zN rfl aR cA (zA (yB zH (pv 0) zB (fun _ _=>rfl)) zD)) zD)) (fun _ _ _ _ _ _=>cD) (fun _ _ _ _ _ _ hp=>zJ (E:=E) Ca.G hr rfl Ca.m Ca.k Ca.b .nil hp (zA (pv 1) (zA (pv 2) (zA (pv 3) (zA (pv 0) zD))))))
  (zG (yI (dJ j7 pY pX yH (pv 4) (zA (zW (zA (pC W0 hr (zA (yB zH (pv 0) zB (fun _ _=>rfl)) (zA (yB zH (yB yU (bh (pv 2) rfl) (pv 5) (fun _ _=>rfl)) zB (fun _ _=>rfl)) zD)))
    (zA (yA zX rfl aU lV (zA (pv 6) zD)) zD))) zD))))))))
  (zG (zO (zW (zA (yA zX rfl aU lV (zA (pC JS hr (zA (yB zH (pv 3) zB (fun _ _=>rfl)) zD)) zD)) (zA (pv 4) (zA (bh (pv 2) rfl) zD))))))))))),?_⟩
 refine aJ fun G_ g_=>?_;obtain⟨pb,pn,t0,pd,bv,nv,T9,dv,h1,h2,h3,h4,h5,h6,h7,h8,h9,h10⟩:=id hX;apply g_;clear g_ G_;refine⟨_,rfl,fun x dx nx ndx Y0=>⟨x,dx,(m:Int),rfl,zC,fun as ap an H1 F1 GZ Hz nan keep=>⟨rfl,?_⟩⟩⟩
 have s1:aG H H1:=fun b o e=>by
  have z1:b≠x:=zM e nx;have z2:b≠dx:=zM e ndx;exact keep b o (by rw[zQ z1,zQ z2];exact e) z1
 have un:∀ b,upd (upd H dx (.own x)) x (.ins C dx []) b=none->H b=none:=fun b e=>by
  cases hb:H b with
  | none=>rfl
  | some o=>
   rw[zQ (zM hb nx),zQ (zM hb ndx),hb]at e
   cases e
 have GZ:=un as GZ;have Hz:=un ap Hz;have nan:=un an nan;clear keep un;refine⟨_,rfl,pc,c,bs,ne,rfl,hX.mono (aA.of s1),ok,n3,fun t ps pw wv bF s0 H2 BR j0 so0 s2 ht hS0 wK KJ hA Za=>?_⟩;refine aJ fun G_ g_=>?_;obtain⟨qa,qb⟩:=q bF s0 BR Za;have XR:=s1.trans s2;have F2:=F1.mono s2;obtain⟨⟨dx',hx2⟩,_⟩:=id F2;apply g_;clear g_ G_;refine⟨_,rfl,x,dx',_,rfl,hx2,Kr _ _ _ _,_,rfl,aF (aK.of ht) rfl ⟨Nat.zero_le _,fun pe hpe=>?_⟩⟩;have s3:=zF hpe (.tup []);have i3:upd H2 pe (.tup []) pe=some (.tup (aC [])):=zC;generalize upd H2 pe (.tup [])=H3 at s3 i3 ⊢;have UJ:=XR.trans s3;refine⟨x,ps,pe,as,ap,an,(m:Int),[],nl s0,[],rfl,F2.mono s3,(fM.tail hS0 []).mono (aA.of s3),i3,Nat.zero_le _,(fun i z=>by cases z),fun _ _ H4 F4 xM=>?_,fun _ z=>absurd z (by show ¬ ((m:Int)<=((0:Nat):Int));lia)⟩
 have GX:aG H H4:=fun b o e=>xM.rest b o (UJ b o e) fun z=>by
  rcases bI.mp z with z | z
  ·rw[z,GZ]at e;cases e
  ·rcases bI.mp z with z | z
   ·rw[z,Hz]at e;cases e
   ·rw[cB.mp z,nan]at e;cases e
 have ZV:∀ {b:Addr} {o:HO},H2 b=some o->H1 b=none->b∉[as,ap,an]:=fun e e1 z=>(F1.there _ z) e1;have Zc:H4 t=some (.tup [.ref ps,.ref pw]):=(F2.mono s3).keep xM _ _ (s3 _ _ ht);have R9:H4 pw=some (.lst wv):=xM.rest _ _ (s3 _ _ wK) (ZV wK KJ);have Zh:Al (fO H4) wv bF:=hA.mono fun _ _ z=>(z.mono (aA.of s3)).mono ((F2.mono s3).keep xM);refine⟨Nat.zero_le _,fun pr hpr=>?_⟩;have s5:=zF hpr (.lst []);have i5:upd H4 pr (.lst []) pr=some (.lst []):=zC;generalize upd H4 pr (.lst [])=H5 at s5 i5 ⊢;have Hs:H pr=none:=GX.free hpr;have prf:pr∉[as,ap,an]:=fun z=>F4.there _ z hpr;have s05:=GX.trans s5;have hC5:∀ {Hi:Hp},aG H Hi->rN Hi pc c:=fun z=>(hX.ch ok).mono (aA.of z);have alc:All c (Jw c) n:=⟨ok.ok,wide ok.ok,fun d hd=>⟨(ok.g d hd).1,Nat.le_trans (ok.g d hd).2 n3⟩⟩
 have T4:c.tn<=20:=by have:=ok.t4;lia
 refine⟨fun σ' Hi => ∃(N:Nat)(fs:Fs)(ms:List (List En×Nat))(rv:List V)(o5 o6:Option V),σ'=[some (.ref pc),some (.int (m:Int)),some (.ref x),some (.ref t),some (.ref pr),o5,o6]/\ao c ne s0 (N*ne) fs ms/\fs.length=N/\N<=m/\gZ c fs/\FD P w C Hi x as ap an (m:Int) fs/\aG H Hi/\Hi t=some (.tup [.ref ps,.ref pw])/\Hi pw=some (.lst wv)/\Al (fO Hi) wv bF/\Hi pr=some (.lst rv)/\Al (jL Hi) rv (rowsOf c ne fs ms N),?_,?_⟩
 ·refine⟨fun μ σ' Hi => ∃(r:Nat)(fs:Fs)(ms:List (List En×Nat))(rv:List V)(o5 o6:Option V),μ=m-r/\σ'=[some (.ref pc),some (.int (m:Int)),some (.ref x),some (.ref t),some (.ref pr),o5,o6]/\ao c ne s0 (r*ne) fs ms/\r<=fs.length/\fs.length<=m/\gZ c fs/\FD P w C Hi x as ap an (m:Int) fs/\aG H Hi/\Hi t=some (.tup [.ref ps,.ref pw])/\Hi pw=some (.lst wv)/\Al (fO Hi) wv bF/\Hi pr=some (.lst rv)/\Al (jL Hi) rv (rowsOf c ne fs ms r),
   ⟨_,0,[(nl s0,[])],[],[],none,none,rfl,rfl,by rw[Nat.zero_mul];exact .nil,Nat.zero_le _,m1,fun y hy=>by rw[cB.mp hy];exact⟨Az so0,j0⟩,F4.mono s5,s05,s5 _ _ Zc,s5 _ _ R9,Zh.mono fun _ _ z=>z.mono (aA.of s5),i5,.nil⟩,?_⟩
  rintro μ σ' Hi aP;refine aJ fun G_ g_=>?_;obtain⟨r,fs,ms,rv,o5,o6,rfl,rfl,FR,rl,flm,JB,Fi,si,hti,Vc,ur,Bp,hRi⟩:=aP;apply g_;clear g_ G_;have VR:=hRi.length;unfold rowsOf at VR;rw[bZ,List.length_range]at VR;refine aJ fun G_ g_=>?_;obtain⟨⟨dxi,hxi⟩,⟨sv,hsv,Ye⟩,_⟩:=id Fi;apply g_;clear g_ G_;have Y9:=Ye.length;rw[bZ]at Y9;refine⟨_,rfl,iZ rfl (.inl (aQ.of Bp)) ⟨_,rfl,x,C,dxi,_,_,rfl,hxi,cl,nS,uG _ _ _ _,iZ rfl (.inl (aQ.of hsv)) (aq ⟨_,rfl,?_⟩)⟩⟩;rw[VR,Y9];refine fH (fun z=>?_) (fun z=>?_)
  ·have z:=of_decide_eq_true z
   have ZP:r<fs.length:=by lia
   refine⟨fun σ2 H2 => ∃(dI:Fs)(jV:List (List En×Nat))(uK:List V)(o5 o6:Option V),σ2=[some (.ref pc),some (.int (m:Int)),some (.ref x),some (.ref t),some (.ref pr),o5,o6]/\ao c ne s0 ((r+1)*ne) dI jV/\r+1<=dI.length/\dI.length<=m/\gZ c dI/\FD P w C H2 x as ap an (m:Int) dI/\aG H H2/\H2 t=some (.tup [.ref ps,.ref pw])/\H2 pw=some (.lst wv)/\Al (fO H2) wv bF/\H2 pr=some (.lst uK)/\Al (jL H2) uK (rowsOf c ne dI jV (r+1)),?_,?_⟩
   ·rintro σ2 H2 aP;refine aJ fun G_ g_=>?_;obtain⟨dI,jV,uK,p5,p6,y1,y2,y3,y4,y5⟩:=aP;apply g_;clear g_ G_;exact⟨m-(r+1),by lia,r+1,dI,jV,uK,p5,p6,rfl,y1,y2,y3,y4,y5⟩
   refine⟨_,rfl,iZ rfl (.inl (aQ.of Bp)) ?_⟩;rw[VR];refine aJ fun G_ g_=>?_;obtain⟨⟨sr,dM⟩,Ij⟩:∃ y,fs[r]? = some y:=⟨_,gq ZP⟩;apply g_;clear g_ G_;have uM:=JB _ (Gf Ij);have YJ:=Bs FR _ (Gf Ij);have lms:=ig FR;have rne:r*ne<=2400:=Nat.le_trans (Nat.mul_le_mul (Nat.le_of_lt (show r<300 by lia)) VM) (by decide);refine⟨_,rfl,aF (aK.of (si _ _ h1)) rfl (iZ rfl (.inr (aK.of (si _ _ h4))) ⟨_,rfl,?_⟩)⟩;rw[h5];refine⟨by lia,by lia,?_⟩;refine ir (lo:=0) (n:=ne) (fun i acc H'=>∃(dI more:Fs)(jV mm:List (List En×Nat)),ao c ne s0 (r*ne+i) dI jV/\dI=fs++more/\jV=ms++mm/\dI.length<=m/\gZ c dI/\FD P w C H' x as ap an (m:Int) dI/\az Hi H' [as,ap,an] [as,ap,an]/\Al (JK H') acc mm)
    ⟨fs,[],ms,[],FR,by simp,by simp,flm,JB,Fi,az.same _ (aG.refl _),.nil⟩ ?_ ?_
   ·rintro i acc H' hi aP;refine aJ fun G_ g_=>?_;obtain⟨dI,more,jV,mm,Nq,e1,e2,Vi,CK,F2,st2,Vf⟩:=aP;apply g_;clear g_ G_;have lm2:=ig Nq
    have wJ:dI[r]? = some (sr,dM):=by rw[e1,Ck ZP];exact Ij
    have hdiv:(r*ne+i)/ne=r:=by
     rw[Nat.mul_comm,Nat.mul_add_div (by lia),Nat.div_eq_of_lt hi,Nat.add_zero]
    have hmod:(r*ne+i)%ne=i:=by
     rw[Nat.mul_comm,Nat.mul_add_mod,Nat.mod_eq_of_lt hi]
    have sH:aG H H':=fun b o e=>st2.rest b o (si b o e) fun z=>by
     rcases bI.mp z with z | z
     ·rw[z,GZ]at e;cases e
     ·rcases bI.mp z with z | z
      ·rw[z,Hz]at e;cases e
      ·rw[cB.mp z,nan]at e;cases e
    refine⟨_,rfl,_,rfl,_,rfl,_,rfl,pc,x,as,ap,an,r,i,(m:Int),c,dI,sr,dM,(by rw[Int.zero_add];rfl),hC5 sH,alc,T4,F2,by lia,wJ,uM.1,uM.2,YJ,?_,fun es s' AR so' j'=>⟨fun hle v H3 hv F3 st3=>?_,fun hn hle=>?_⟩⟩
    ·have:=zf FR _ (Gf Ij);simp only at this;lia
    ·have Te:=ao.cell Nq (by lia) (by rw[hdiv];exact wJ) (by rw[hmod];exact AR);rw[hmod]at Te;refine aJ fun G_ g_=>?_;obtain⟨m3,em3,_⟩:=jy dI (nl s') (dM++[i]);apply g_;clear g_ G_;refine⟨zI (by rw[Vf.length];(have:jV.length=ms.length+mm.length:=by rw[e2,dW]);lia),_,more++m3,_,mm++[(es,xY dI (nl s'))],Te,by rw[em3,e1,List.append_assoc],by rw[e2,List.append_assoc],?_,CK.add so' j',F3,az.trans st2 st3,(Vf.mono fun _ _ z=>z.mono (F2.keep st3)).snoc hv⟩;rcases hle with hle | hle
     ·lia
     ·rw[hle];exact Vi
    ·have Te:=ao.cell Nq (by lia) (by rw[hdiv];exact wJ) (by rw[hmod];exact AR);rw[hmod,(bj (p:=dM++[i]) hn).1]at Te;have:=qb _ _ _ Te (by rw[dW,gj];lia);intro dx2 pl pv H3 st3 z1 z2 z3 z4 z5
     exact this dx2 pl pv H3 ⟨(fun b hb=>by cases hb),fun b o e _=>by
      refine st3.rest b o (sH b o e) fun z=>?_;rcases bI.mp z with z | z
      ·rw[z,GZ]at e;cases e
      ·rcases bI.mp z with z | z
       ·rw[z,Hz]at e;cases e
       ·rw[cB.mp z,nan]at e;cases e⟩ (sH.free z1) (sH.free z2) z3 z4 z5
   rintro acc H' ⟨dI,more,jV,mm,Nq,e1,e2,Vi,CK,F2,st2,Vf⟩ pl hpl;have lm2:=ig Nq
   have lmm:mm.length=ne:=by
    rw[e2,dW]at lm2;lia
   have s6:=zF hpl (.lst acc);have i6:upd H' pl (.lst acc) pl=some (.lst acc):=zC;generalize upd H' pl (.lst acc)=H6 at s6 i6 ⊢;have F6:=F2.mono s6;have GR:az Hi H6 [as,ap,an] [as,ap,an]:=az.trans st2 (az.same _ s6);have k6:=Fi.keep GR
   have sH6:aG H H6:=fun b o e=>GR.rest b o (si b o e) fun z=>by
    rcases bI.mp z with z | z
    ·rw[z,GZ]at e;cases e
    ·rcases bI.mp z with z | z
     ·rw[z,Hz]at e;cases e
     ·rw[cB.mp z,nan]at e;cases e
   refine aJ fun G_ g_=>?_;obtain⟨⟨dx6,hx6⟩,⟨sv6,qFA,qBU⟩,_⟩:=id F6
   have wJ:dI[r]? = some (sr,dM):=by rw[e1,Ck ZP];exact Ij
   obtain⟨v6,hv6,q6,rfl,po6,pb6,pk6,kv6,hq6,ho6,_⟩:=qBU.get (k:=r) (r:=sr) (by rw[gf,wJ];rfl);apply g_;clear g_ G_;have qBW:H6 pr=some (.lst rv):=GR.rest _ _ Bp prf;refine⟨_,rfl,.inl ⟨rfl,_,aQ.of qBW⟩,_,rfl,aF (aK.of (sH6 _ _ h1)) rfl ⟨_,rfl,x,C,dx6,_,_,rfl,hx6,cl,nS,uG _ _ _ _,_,rfl,bY (aQ.of qFA) (yQ hv6) (aF (aK.of hq6) rfl ⟨t0,po6,c.rs,sr.os,rfl,⟨T9,sH6 _ _ h6,h7.mono (aA.of sH6)⟩,ho6,uM.1.lt,uM.1.VH,ok.ok.r40,fun tl H7 s7 htl=>?_⟩)⟩⟩;have i7:=s7 _ _ i6;refine⟨_,rfl,pl,_,rfl,.inl ⟨aQ.of i7,fun tm htm=>?_⟩⟩;have s8:=zF htm (.tup acc);have i8:upd H7 tm (.tup acc) tm=some (.tup acc):=zC;generalize upd H7 tm (.tup acc)=H8 at s8 i8 ⊢;refine⟨zI (by show 2<=1000;decide),fun tr htr=>?_⟩;have s9:=zF htr (.tup [V.ref tl,V.ref tm]);have i9:upd H8 tr (.tup [V.ref tl,V.ref tm]) tr=some (.tup [V.ref tl,V.ref tm]):=zC;generalize upd H8 tr (.tup [V.ref tl,V.ref tm])=H9 at s9 i9 ⊢;have s69:=s7.trans (s8.trans s9);have Yk:H9 pr=some (.lst rv):=s69 _ _ qBW;refine⟨pr,_,_,rfl,rfl,Yk,zI (by lia),?_⟩;generalize hHa:upd H9 pr (.lst (rv++[.ref tr]))=Ha
   have ra:∀ b,b≠pr->Ha b=H9 b:=fun b z=>by rw[<-hHa];exact zQ z
   have pa:Ha pr=some (.lst (rv++[.ref tr])):=by rw[<-hHa];exact zC
   have ka:aA H9 Ha:=fun b xs e=>(ra b (fun z=>by rw[z,Yk]at e;cases e)).trans e;have k69:=(aA.of s69).trans ka;have k0a:aA Hi Ha:=k6.trans k69;have sa:aG H Ha:=fun b o e=>(ra b (fun z=>by rw[z,Hs]at e;cases e)).trans ((sH6.trans s69) _ _ e)
   have Fa:FD P w C Ha x as ap an (m:Int) dI:=by
    refine aJ fun G_ g_=>?_;obtain⟨⟨dx9,y1⟩,⟨sv9,y2,y3⟩,⟨pv9,y4,y5⟩,y6,y7⟩:=F6.mono s69;apply g_;clear g_ G_;have z1:as≠pr:=fun z=>prf (by rw[<-z];simp);have z2:ap≠pr:=fun z=>prf (by rw[<-z];simp);have z3:an≠pr:=fun z=>prf (by rw[<-z];simp);exact⟨⟨dx9,(ra x (bz y1 Yk nofun)).trans y1⟩,⟨sv9,(ra as z1).trans y2,y3.mono fun _ _ z=>z.mono ka⟩,⟨pv9,(ra ap z2).trans y4,y5.mono fun _ _ z=>z.mono ka⟩,y6.mono (fun b xs e=>ka b xs e) (ra an z3),y7⟩
   have qFD:pw∉[as,ap,an]:=ZV wK KJ
   have npp:pw≠pr:=fun z=>by rw[z,hpr]at R9;cases R9
   refine⟨dI,jV,rv++[.ref tr],_,_,rfl,(by rw[Nat.add_mul,Nat.one_mul];exact Nq),(by rw[e1,dW];lia),Vi,CK,Fa,sa,k0a _ _ hti,(ra pw npp).trans (s69 _ _ (GR.rest _ _ Vc qFD)),ur.mono fun _ _ z=>z.mono k0a,pa,?_⟩;rw[Dl,e1,e2,HF rl (by lia)];refine (hRi.mono fun _ _ z=>z.mono k0a).snoc ⟨tr,tl,tm,acc,rfl,ka _ _ i9,?_,(aA.of s9).trans ka _ _ i8,?_⟩
   ·have hl:(fs++more)[r]? = some (sr,dM):=by rw[<-e1];exact wJ
    unfold rowAt;rw[hl];exact ((aA.of (s8.trans s9)).trans ka) _ _ htl
   ·unfold rowAt;show Al (JK Ha) acc (((ms++mm).drop (r*ne)).take ne);rw[<-lms,List.drop_left,xK (by lia)];exact Vf.mono fun _ _ z=>(z.mono (aA.of s6)).mono k69
  ·have z:=of_decide_eq_false z;exact⟨r,fs,ms,rv,o5,o6,rfl,FR,by lia,by lia,JB,Fi,si,hti,Vc,ur,Bp,hRi⟩
 rintro _ Hi aP;refine aJ fun G_ g_=>?_;obtain⟨N,fs,ms,rv,o5,o6,rfl,FR,fl,Nm,JB,Fi,si,hti,Vc,ur,Bp,hRi⟩:=aP;apply g_;clear g_ G_;refine⟨_,rfl,aF (aK.of hti) rfl ⟨pw,wv,bF,rfl,Vc,ur,by lia,fun pl H6 s6 npl hpl=>?_⟩⟩;refine⟨pl,_,rfl,.inl ⟨aQ.of hpl,fun tw htw=>?_⟩⟩;have s7:=zF htw (.tup ((cg bF).map V.str));have i7:upd H6 tw (.tup ((cg bF).map V.str)) tw=some (.tup ((cg bF).map V.str)):=zC;generalize upd H6 tw (.tup ((cg bF).map V.str))=H7 at s7 i7 ⊢;have s67:=s6.trans s7;refine aJ fun G_ g_=>?_;obtain⟨⟨dx7,hx7⟩,⟨sv7,qF9,qBT⟩,_⟩:=id (Fi.mono s67);apply g_;clear g_ G_;refine⟨_,rfl,_,rfl,x,C,dx7,_,_,rfl,hx7,cl,nS,uG _ _ _ _,zI (by show 3<=1000;decide),fun tr htr=>?_⟩;have s8:=zF htr (.tup [V.ref tw,V.ref pr,V.ref as]);exact qa N fs ms tr tw pr as rv sv7 _ FR fl Nm JB zC (s8 _ _ i7) ((s67.trans s8) _ _ Bp) (hRi.mono fun _ _ z=>z.mono (aA.of (s67.trans s8))) (s8 _ _ qF9) (qBT.mono fun _ _ z=>z.mono (aA.of s8)) (si.trans (s67.trans s8)) Hs GZ (fun z=>prf (by rw[z];simp))
end
noncomputable def CQ(c:dC):En->Prop
 | .inn r=>r<c.rs.length
 | .door k=>k<c.ds.length
 | _=>True
theorem Gp{sz:List Int}{m:Nat}(e:En):∀(ss:List Sd)(s:List Int×List Int×List En),e∈(ss.foldl (Ru.sstep sz m) s).2.2->e∈s.2.2∨(∃ x∈ss,e=x.1) ∨ ∃ r,e = .rc r
 | [],_,h=>.inl h
 | x::ss,s,h=>by
  rcases Gp e ss _ h with z | ⟨y,hy,z⟩ | z
  ·unfold Ru.sstep at z;simp only at z;rcases cX.mp z with z | z
   ·exact .inl z
   ·rcases bI.mp z with z | z
    ·exact .inr (.inl ⟨x,Cu,z⟩)
    ·obtain⟨r,_,rfl⟩:=eQ.mp z;exact .inr (.inr ⟨r,rfl⟩)
  ·exact .inr (.inl ⟨y,GQ _ hy,z⟩)
  ·exact .inr (.inr z)
section
variable{c:dC}
theorem Uq(ok:rM c){k:Nat}{s s':S4}{es:List En}(h:Ab c k s es s'):∀ e∈es,CQ c e:=by
 obtain⟨d,ms,h1,h2,_,_,_,h6⟩:=h
 have e6:es=(cC c.sz c.lb (eU c k d s.os ms) s.bx s.l).2.2:=by rw[<-h6]
 intro e he;rw[e6]at he;rcases Gp e _ _ he with z | ⟨x,hx,rfl⟩ | ⟨r,rfl⟩
 ·cases z
 ·unfold eU at hx;rcases cX.mp hx with hx | hx
  ·rcases cX.mp hx with hx | hx
   ·rcases cX.mp hx with hx | hx
    ·rw[cB.mp hx];exact (lQ.mp h1).1
    ·obtain⟨r,_,rfl⟩:=eQ.mp hx;exact True.intro
   ·rw[cB.mp hx];exact True.intro
  ·obtain⟨r,hr,rfl⟩:=eQ.mp hx;exact Ig ok h2 r hr
 ·exact True.intro
theorem Rk(ok:rM c){s s':S4}{ks lf:List Nat}{es:List En}(h:iy c s ks lf es s'):∀ e∈es,CQ c e:=by
 induction h with
 | nil=>intro e he;cases he
 | skip _ _ _ ih=>exact ih
 | go _ _ _ hp ih=>
  intro e he;rcases cX.mp he with he | he
  ·exact ih e he
  ·exact Uq ok hp e he
theorem Jd(ok:rM c){ev:Int}{s s':S4}{es:List En}(h:zz c ev s es s'):∀ e∈es,CQ c e:=by
 obtain⟨lf,e2,h1,rfl⟩:=h;intro e he;rcases bI.mp he with rfl | he
 ·exact True.intro
 ·exact Rk ok h1 e he
theorem Pu(ok:rM c){bF:List En}{s0 s':S4}{n:Nat}{es:List En}(h0:∀ e∈bF,CQ c e)(h:lL c bF s0 n es s'):∀ e∈es,CQ c e:=by
 induction h with
 | one=>exact h0
 | more _ _ _ ht ih=>
  intro e he;rcases cX.mp he with he | he
  ·exact ih e he
  ·exact Jd ok ht e he
theorem KY{l:List Int}:∀ e∈t6 l,CQ c e:=by
 intro e he;obtain⟨x,_,rfl⟩:=eQ.mp he;exact True.intro
theorem Z4(ok:rM c){ev:Int}{s s':S4}{es:List En}(h:Ja c ev s es s'):∀ e∈es,CQ c e:=by
 obtain⟨e1,e2,s1,n,h1,h2,_,rfl⟩:=h;intro e he;rcases cX.mp he with he | he
 ·exact Pu ok (Jd ok h1) h2 e he
 ·exact KY e he
theorem Z3(ok:rM c){bs:List (Int×Int)}{s:S4}{es:List En}(h:Nz c bs es s):∀ e∈es,CQ c e:=by
 obtain⟨ms,n,e1,h1,h2,_,rfl⟩:=h;have npos:=ok.good.pos;have ld:=yV c.rs;intro e he;rcases cX.mp he with he | he
 ·refine Pu ok (fun e he=>?_) h2 e he;unfold An cC at he;rcases Gp e _ _ he with z | ⟨x,hx,rfl⟩ | ⟨r,rfl⟩
  ·cases z
  ·obtain⟨r,hr,rfl⟩:=eQ.mp hx;have:=h1.lt npos r hr;show r<c.rs.length;lia
  ·exact True.intro
 ·exact KY e he
end
noncomputable def jJ:En->Option Nat
 | .inn r=>some (2*r)
 | .door k=>some (2*k+1)
 | _=>none
noncomputable def lH(x:Nat):List Key:=[.inr (if x%2=0 then ("in" : Str) else ("door" : Str)),.inl ((x/2:Nat):Int)]
theorem Ke:¬ (("in" : Str)=("door" : Str)):=by decide +kernel
theorem R0{x y:Nat}(h:lH x=lH y):x=y:=by
 unfold lH at h;simp only[List.cons.injEq,Sum.inr.injEq,Sum.inl.injEq,and_true]at h;obtain⟨h1,h2⟩:=h
 have h3:x/2=y/2:=by lia
 by_cases a:x%2=0
 ·by_cases b:y%2=0
  ·lia
  ·rw[if_pos a,if_neg b]at h1;exact absurd h1 Ke
 ·by_cases b:y%2=0
  ·rw[if_neg a,if_pos b]at h1;exact absurd h1.symm Ke
  ·lia
noncomputable def dH(es:List En)(x:Nat):Bool:=es.any fun e=>decide (jJ e=some x)
noncomputable abbrev wu:=List (List En×List Nat)
noncomputable def bK(R:wu)(x:Nat):Option (List Nat):=(R.find? fun y=>dH y.1 x).map (·.2)
theorem il(R:wu)(es:List En)(p:List Nat)(x:Nat):bK (R++[(es,p)]) x=match bK R x with
 | some q=>some q
 | none=>if dH es x=true then some p else none:=by
 unfold bK;rw[List.find?_append]
 cases h:R.find? fun y=>dH y.1 x with
 | some y=>rfl
 | none=>
  simp only[Option.map_none,Option.none_or];rw[List.find?_cons]
  cases dH es x with
  | true=>rfl
  | false=>rfl
theorem qt(es:List En)(e:En)(x:Nat):dH (es++[e]) x=(dH es x||decide (jJ e=some x)):=by
 unfold dH;rw[List.any_append];simp
noncomputable abbrev Mt:=List (Nat×V)
noncomputable def jr(M:Mt):List (List Key×V):=M.map fun x=>(lH x.1,x.2)
theorem Ak(x:Nat):∀ M:Mt,cG (jr M) (lH x)=M.lookup x
 | []=>rfl
 | (y,v)::M=>by
  show cG ((lH y,v)::jr M) (lH x)=_;rw[List.lookup_cons]
  by_cases h:x=y
  ·subst h;rw[bu (p:=(lH x,v)) rfl,show (x==x)=true by simp]
  ·rw[bw (p:=(lH y,v)) (fun z=>h (R0 z).symm),Ak x M,show (x==y)=false by simpa using h]
structure jA(H:Hp)(M:Mt)(R:wu):Prop where
 nd:(M.map (·.1)).Nodup
 lt:∀ x∈M,x.1<400
 at_:∀ x,match M.lookup x,bK R x with
  | some v,some p=>xZ H v p
  | none,none=>True
  | _,_=>False
theorem jA.mono{H H':Hp}{M:Mt}{R:wu}(h:jA H M R)(k:aA H H'):jA H' M R:=by
 refine⟨h.nd,h.lt,fun x=>?_⟩;have z:=h.at_ x;revert z
 cases M.lookup x <;> cases bK R x <;> simp only[] <;> intro z
 ·trivial
 ·exact z
 ·exact z
 ·exact z.mono k
theorem jA.len{H:Hp}{M:Mt}{R:wu}(h:jA H M R):M.length<=400:=by
 have:=Tr.jq 400 (M.map (·.1)) h.nd fun x hx=>by
  obtain⟨y,hy,rfl⟩:=eQ.mp hx;exact h.lt y hy
 rw[bZ]at this;exact this
theorem Mg(M:Mt)(y:Nat)(v:V)(x:Nat):(M++[(y,v)]).lookup x=match M.lookup x with
 | some u=>some u
 | none=>if x=y then some v else none:=by
 induction M with
 | nil=>
  show List.lookup x [(y,v)]=_;rw[List.lookup_cons]
  by_cases h:x=y
  ·subst h;simp
  ·rw[show (x==y)=false by simpa using h];simp [h]
 | cons a M ih=>
  obtain⟨b,u⟩:=a;show List.lookup x ((b,u)::(M++[(y,v)]))=_;rw[List.lookup_cons,List.lookup_cons]
  cases x==b with
  | true=>rfl
  | false=>exact ih
theorem jA.nothing{H:Hp}{M:Mt}{R:wu}{es:List En}{p:List Nat}{e:En}(h:jA H M (R++[(es,p)]))(hc:∀ x,jJ e=some x->(M.lookup x).isSome=true):jA H M (R++[(es++[e],p)]):=by
 refine⟨h.nd,h.lt,fun x=>?_⟩;have z:=h.at_ x
 have e1:bK (R++[(es++[e],p)]) x=bK (R++[(es,p)]) x:=by
  rw[il,il]
  cases hf:bK R x with
  | some q=>rfl
  | none=>
   simp only[];rw[qt]
   by_cases he:jJ e=some x
   ·have y:=hc x he;rw[il,hf]at z;simp only[]at z
    cases hh:dH es x with
    | true=>rfl
    | false=>
     rw[hh]at z;revert z y
     cases M.lookup x with
     | none=>intro z y;cases y
     | some v=>intro z y;exact z.elim
   ·rw[decide_eq_false he,Bool.or_false]
 rw[e1];exact z
theorem jA.one{H:Hp}{M:Mt}{R:wu}{es:List En}{p:List Nat}{e:En}{y:Nat}{v:V}(h:jA H M (R++[(es,p)]))(hc:jJ e=some y)(hl:y<400)(hn:M.lookup y=none)(hv:xZ H v p):jA H (M++[(y,v)]) (R++[(es++[e],p)]):=by
 have hny:y∉M.map (·.1):=fun z=>by
  obtain⟨a,ha,e⟩:=eQ.mp z
  have:∀ M:Mt,a∈M->(M.lookup a.1).isSome=true:=by
   intro M
   induction M with
   | nil=>intro z;cases z
   | cons b M ih=>
    intro hz;obtain⟨b1,b2⟩:=b;rw[List.lookup_cons]
    cases hb:a.1==b1 with
    | true=>rfl
    | false=>
     rcases bI.mp hz with k | k
     ·rw[k]at hb;simp at hb
     ·exact ih k
  have w:=this M ha;rw[e,hn]at w
  cases w
 refine⟨?_,fun x hx=>?_,fun x=>?_⟩
 ·rw[jd,List.nodup_append];refine⟨h.nd,by simp,fun a ha b hb=>?_⟩;rw[List.map_cons,List.map_nil,cB]at hb;subst hb;exact fun z=>hny (z▸ha)
 ·rcases cX.mp hx with hx | hx
  ·exact h.lt x hx
  ·rw[cB.mp hx];exact hl
 ·have z:=h.at_ x;rw[Mg];rw[il]at z ⊢
  by_cases hx:x=y
  ·subst hx;rw[hn]at z ⊢
   cases hf:bK R x with
   | some q=>rw[hf]at z;exact z.elim
   | none=>
    simp only[];rw[qt,decide_eq_true hc,Bool.or_true,if_pos rfl]
    first
     | exact hv
     | (rw[if_pos rfl];exact hv)
     | (simp only[if_true];exact hv)
  ·have e2:dH (es++[e]) x=dH es x:=by
    rw[qt,decide_eq_false (fun k=>hx (jO (k.symm.trans hc))),Bool.or_false]
   rw[e2]
   cases hm:M.lookup x with
   | some u=>rw[hm]at z;exact z
   | none=>rw[hm]at z;rw[if_neg hx];exact z
noncomputable def TP:bN (List Key) 1:=bN.leaf.tup
theorem le1:1<=8:=by decide
theorem Ka(r:Nat):lH (2*r)=[.inr ("in" : Str),.inl (r:Int)]:=by
 unfold lH;rw[if_pos (by lia),show 2*r/2=r by lia]
theorem za(k:Nat):lH (2*k+1)=[.inr ("door" : Str),.inl (k:Int)]:=by
 unfold lH;rw[if_neg (by lia),show (2*k+1)/2=k by lia]
theorem Yb{H:Hp}{a:Addr}{r:Nat}(h:H a=some (.tup [.str "in",.int (r:Int)])):TP.inn 0 H (lH (2*r)) (.ref a):=by
 rw[Ka];exact⟨a,_,rfl,h,.cons rfl (.cons rfl .nil)⟩
theorem R7{H:Hp}{a:Addr}{k:Nat}(h:H a=some (.tup [.str "door",.int (k:Int)])):TP.inn 0 H (lH (2*k+1)) (.ref a):=by
 rw[za];exact⟨a,_,rfl,h,.cons rfl (.cons rfl .nil)⟩
noncomputable def Gs(P:Program)(w:World):Sp:=fun vs H Q _ => ∃(pm pr pt:Addr)(M:Mt)(R:wu)(rv:List V)(es:List En)(p:List Nat),vs=[.ref pm,.ref pr,.ref pt]/\DN P w TP le1 H pm (jr M)/\H pr=some (.lst rv)/\Al (fO H) rv es/\es.length<=1000000/\(∀ e∈es,∀ x,jJ e=some x->x<400) ∧
 H pt=some (.tup (aC p))/\jA H M R/\∀(M':Mt)(H':Hp),DN P w TP le1 H' pm (jr M')->jA H' M' (R++[(es,p)])->az H H' [pm] [pm]->Q .non H'
theorem UW(e:En):∃(s:Str)(x:V)(r:List V),e.row = .str s::x::r/\(inV (.str s) [.str ("in" : Str),.str ("door" : Str)]=true->(∃ k:Nat,e = .inn k) ∨ ∃ k:Nat,e = .door k)/\(inV (.str s) [.str ("in" : Str),.str ("door" : Str)]=false->jJ e=none):=by
 cases e with
 | inn k=>exact⟨_,_,_,rfl,fun _=>.inl ⟨k,rfl⟩,fun z=>absurd z (by decide +kernel)⟩
 | out k=>exact⟨_,_,_,rfl,fun z=>absurd z (by decide +kernel),fun _=>rfl⟩
 | door k=>exact⟨_,_,_,rfl,fun _=>.inr ⟨k,rfl⟩,fun z=>absurd z (by decide +kernel)⟩
 | thr k=>exact⟨_,_,_,rfl,fun z=>absurd z (by decide +kernel),fun _=>rfl⟩
 | take e=>exact⟨_,_,_,rfl,fun z=>absurd z (by decide +kernel),fun _=>rfl⟩
 | rc r=>
  cases r
  all_goals exact⟨_,_,_,rfl,fun z=>absurd z (by decide +kernel),fun _=>rfl⟩
section
variable{P:Program}{w:World}{K:bO}{mg:Str->Option Value}{base:Heap}{C CT:Addr}
theorem Jr:aH ["met","record","path","part"] ["met","record","path"] (aB BL):=eO
theorem V0{f:Addr}{fd:FuncData}(F:cY K "note" "note" BL f fd):aM P w K mg base aW 1 f fd ["met","record","path"] (Gs P w):=by
 refine F.ok Jr (fun vs H Q E h=>?_) (fun cdv A outer s H vs Q E hr h=>?_)
 ·refine aJ fun G_ g_=>?_;obtain⟨pm,pr,pt,M,R,rv,es,p,rfl,_⟩:=h;apply g_;clear g_ G_;rfl
 refine aJ fun G_ g_=>?_;obtain⟨pm,pr,pt,M,R,rv,es,p,rfl,hD,hpr,hA,le,lt,Kh,hM,q⟩:=h;apply g_;clear g_ G_
 refine⟨_,(zG (bU PassesOwn.never rfl (yM (pv 1)) (yJ (i:=3) Jr.nd rfl (Or.inl rfl)) (zG (yD (zL sX (yB zH (pv 3) zB (fun _ _=>rfl)) (zW (zA zP (zA zP zD))) rfl)
  (zG (yI (Uk hr.units TP le1 (pv 0) (pv 3) (pv 2) ⟨rfl,rfl,rfl,rfl⟩))) zT)))),?_⟩
 have lA:=hA.length
 have nm:pm≠pr:=by
  obtain⟨φ,z⟩:=fc hD;exact bz z hpr nofun
 refine⟨_,rfl,pr,rfl,⟨_,aQ.of hpr⟩,?_⟩;refine fK (K:=K) (a:=pr) (xs:=rv) (fun i σ' H'=>∃(M':Mt)(o:Option V),σ'=[some (.ref pm),some (.ref pr),some (.ref pt),o]/\DN P w TP le1 H' pm (jr M')/\jA H' M' (R++[(es.take i,p)])/\az H H' [pm] [pm]) ?_ ?_ ?_ ?_
 ·refine⟨M,none,rfl,hD,?_,az.same _ (aG.refl _)⟩;refine⟨hM.nd,hM.lt,fun x=>?_⟩;rw[il];have z:=hM.at_ x
  cases hf:bK R x with
  | some y=>rw[hf]at z;exact z
  | none=>rw[hf]at z;exact z
 ·rintro i σ' H' _ aP;refine aJ fun G_ g_=>?_;obtain⟨M',o,_,_,_,st⟩:=aP;apply g_;clear g_ G_;exact aQ.of (st.rest _ _ hpr (by simpa using Ne.symm nm))
 ·rintro i x σ' H' hx aP;refine aJ fun G_ g_=>?_;obtain⟨M',o,rfl,hD',hM',st⟩:=aP
  have kt:aA H H':=fun b xs e=>st.rest _ _ e (by
   obtain⟨φ,z⟩:=fc hD;have:=bz e z nofun
   simpa using this)
  have hi:i<es.length:=by
   have:=(lQ.mp hx).1;lia
  have ei:=gq hi;obtain⟨v,hv,a,rfl,ha⟩:=hA.get ei;apply g_;clear g_ G_;rw[hv]at hx;obtain rfl:=jO hx;have ha:=kt _ _ ha
  have et:es.take (i+1)=es.take i++[es[i]]:=by rw[j8,ei];rfl
  refine aJ fun G_ g_=>?_;obtain⟨sx,xx,rx,er,hin,hnot⟩:=UW es[i];apply g_;clear g_ G_;have ha':=ha;rw[er]at ha';refine⟨_,rfl,a,_,_,V.str sx,rfl,rfl,aK.of ha',yQ (j:=0) (v:=V.str sx) rfl,zI (by show 2<=1000;decide),fun pq hpq=>?_⟩;have sq:=zF hpq (.tup [V.str ("in" : Str),V.str ("door" : Str)]);have iq:upd H' pq (.tup [V.str ("in" : Str),V.str ("door" : Str)]) pq=some (.tup [V.str ("in" : Str),V.str ("door" : Str)]):=zC;generalize upd H' pq (.tup [V.str ("in" : Str),V.str ("door" : Str)])=H2 at sq iq ⊢;have hD2:DN P w TP le1 H2 pm (jr M'):=hD'.mono (fun b xs e=>sq _ _ e) (by obtain⟨φ,z⟩:=fc hD';rw[z];exact sq _ _ z);have Vf:=hM'.mono (aA.of sq);have st2:az H H2 [pm] [pm]:=az.trans st (az.same _ sq);have ha2:=sq _ _ ha;have qFK:H2 pt=some (.tup (aC p)):=sq _ _ (kt _ _ Kh);refine (iZ rfl (.inr (aK.of iq)) ⟨rfl,rfl,_,rfl,fH (fun z=>?_) (fun z=>?_)⟩)
  ·refine aJ fun G_ g_=>?_
   obtain⟨y,hy,hk⟩:∃ y,jJ es[i]=some y/\TP.inn 0 H2 (lH y) (.ref a):=by
    rcases hin z with ⟨k,ek⟩ | ⟨k,ek⟩
    ·rw[ek]at ha2;exact⟨2*k,by rw[ek];rfl,Yb ha2⟩
    ·rw[ek]at ha2;exact⟨2*k+1,by rw[ek];rfl,R7 ha2⟩
   apply g_;clear g_ G_;have ylt:=lt _ (je hi) y hy;have hv2:=Ak y M';refine⟨_,rfl,pm,_,rfl,hD2,_,rfl,_,rfl,a,_,lH y,rfl,hD2,hk,zI (by unfold jr;rw[bZ];have:=Vf.len;lia),fun v' hv'=>?_,fun hn o dn=>?_⟩
   ·refine⟨M',_,rfl,hD2,?_,st2⟩;rw[et];refine Vf.nothing fun x hx=>?_;rw[hy]at hx
    cases hx
    rw[<-hv2,hv'];rfl
   ·rw[hv2]at hn
    have hne:∀ b xs,H2 b=some (.tup xs)->upd H2 pm o b=some (.tup xs):=fun b xs e=>by
     obtain⟨φ,z⟩:=fc hD2;rw[zQ (bz e z nofun)];exact e
    refine⟨M'++[(y,.ref pt)],_,rfl,?_,?_,?_⟩
    ·unfold jr;rw[jd];exact dn
    ·rw[et];exact (Vf.mono hne).one hy ylt hn ⟨pt,rfl,hne _ _ qFK⟩
    ·exact⟨fun b hb=>.inl hb,fun b o' e nb=>by
      rw[zQ (fun z=>nb (by rw[z];simp))]
      exact st2.rest b o' e nb⟩
  ·refine⟨M',_,rfl,hD2,?_,st2⟩;rw[et]
   exact Vf.nothing fun x hx=>by rw[hnot z]at hx;cases hx
 ·rintro σ' H' aP;refine aJ fun G_ g_=>?_;obtain⟨M',o,rfl,hD',hM',st⟩:=aP;apply g_;clear g_ G_;rw[lA,List.take_length]at hM';exact q M' H' hD' hM' st
noncomputable def oY(fs:Fs)(ne k:Nat):List Nat:=fs[k/ne]?.elim [] (·.2)++[k%ne]
noncomputable def jC(ne:Nat)(fs:Fs):Nat->List (List En×Nat)->wu
 | _,[]=>[]
 | k,m::ms=>(m.1,oY fs ne k)::jC ne fs (k+1) ms
noncomputable def iD(bF:List En)(ne:Nat)(fs:Fs)(ms:List (List En×Nat)):wu:=(bF,[])::jC ne fs 0 ms
theorem vZ(ne:Nat)(fs:Fs)(m:List En×Nat):∀(k:Nat)(ms:List (List En×Nat)),jC ne fs k (ms++[m])=jC ne fs k ms++[(m.1,oY fs ne (k+ms.length))]
 | _,[]=>rfl
 | k,x::ms=>by
  show (x.1,oY fs ne k)::jC ne fs (k+1) (ms++[m])=_;rw[vZ ne fs m (k+1) ms,dz,show k+1+ms.length=k+(ms.length+1) by lia];rfl
theorem yf{ne:Nat}{fs more:Fs}:∀(ms:List (List En×Nat))(k:Nat),(∀ j,k<=j->j<k+ms.length->j/ne<fs.length)->jC ne (fs++more) k ms=jC ne fs k ms
 | [],_,_=>rfl
 | x::ms,k,h=>by
  show (x.1,oY (fs++more) ne k)::jC ne (fs++more) (k+1) ms=(x.1,oY fs ne k)::jC ne fs (k+1) ms;rw[yf ms (k+1) fun j h1 h2=>h j (by lia) (by rw[dz];lia)];unfold oY;rw[Ck (h k (bM _) (by rw[dz];lia))]
theorem Mz{c:dC}{ne:Nat}{s0:S4}{i:Nat}{fs:Fs}{ms:List (List En×Nat)}(h:ao c ne s0 i fs ms):∀ j,j<i->j/ne<fs.length:=by
 intro j hj;obtain⟨fs',wC,more,jV,g1,g2,g3,g4⟩:=tK h j (by lia);obtain⟨x,hx⟩:=g4 hj;have:=(lQ.mp hx).1;rw[g2,dW];lia
theorem Lx{c:dC}{ne:Nat}{s0:S4}{i:Nat}{fs:Fs}{ms:List (List En×Nat)}{bF es:List En}{s s':S4}{p:List Nat}{j:Nat}(h:ao c ne s0 i fs ms)(h1:fs[i/ne]? = some (s,p)) :
  iD bF ne (rE fs s' (p++[i%ne])) (ms++[(es,j)])=iD bF ne fs ms++[(es,p++[i%ne])]:=by
 obtain⟨more,e,_⟩:=jy fs s' (p++[i%ne]);have lm:=ig h;have hl:=(lQ.mp h1).1;unfold iD;rw[vZ,Nat.zero_add,lm,e,yf ms 0 fun k _ hk=>Mz h k (by lia)];unfold oY;rw[Ck hl,h1];rfl
noncomputable def CP(H:Hp)(v:V)(o:Option (List Nat)):Prop:=match o with
 | none=>v = .non
 | some p=>xZ H v p
theorem CP.mono{H H':Hp}{v:V}{o:Option (List Nat)}(x:CP H v o)(k:aA H H'):CP H' v o:=by
 cases o with
 | none=>exact x
 | some p=>exact xZ.mono x k
theorem jA.get{H:Hp}{M:Mt}{R:wu}(h:jA H M R)(x:Nat):CP H ((M.lookup x).getD .non) (bK R x):=by
 have z:=h.at_ x;revert z
 cases M.lookup x with
 | none=>
  cases bK R x with
  | none=>intro _;rfl
  | some p=>intro z;exact z.elim
 | some v=>
  cases bK R x with
  | none=>intro z;exact z.elim
  | some p=>intro z;exact z
noncomputable def Oo(CT:Addr)(n:Nat):Sp:=fun vs H Q E => ∃(pc:Addr)(m:Nat)(c:dC)(bs:List (Int×Int))(ne:Nat),vs=[.ref pc,.int (m:Int)]/\uz.Tf H pc c bs ne/\uz.Ah c bs/\3<=n/\1<=m/\m<=300/\ne<=8 ∧
 ∀(bF:List En)(s0:S4),Nz c bs bF s0->bF.length<=1000000 →
  (∀(N:Nat)(fs:Fs)(ms:List (List En×Nat))(t pr pd:Addr)(rv dv:List V)(H':Hp),ao c ne s0 (N*ne) fs ms->fs.length=N->N<=m->gZ c fs->H' t=some (.tup [.ref pr,.ref pd])->H' pr=some (.lst rv)->H' pd=some (.lst dv) →
   Al (CP H') rv ((List.range c.rs.length).map fun r=>bK (iD bF ne fs ms) (2*r))->Al (CP H') dv ((List.range c.ds.length).map fun k=>bK (iD bF ne fs ms) (2*k+1))->aG H H'->H pr=none->H pd=none->pr≠pd->Q (.ref t) H') ∧
  (∀(i:Nat)(fs:Fs)(ms:List (List En×Nat)),ao c ne s0 i fs ms->fs.length=m+1->Wide CT [] H E (fs.map (·.2)))
theorem qH{H Hi H':Hp}{fp:List Addr}(si:aG H Hi)(st:az Hi H' fp fp)(nf:∀ b∈fp,H b=none):aG H H':=fun b o e=>st.rest b o (si b o e) fun z=>by
 rw[nf b z]at e
 cases e
theorem FD.note{P:Program}{w:World}{C:Addr}{H H':Hp}{p as ap an pm:Addr}{m:Int}{fs:Fs}{φ:Heap->Prop}(x:FD P w C H p as ap an m fs)(st:az H H' [pm] [pm])(hm:H pm=some (.ext φ))(ne:an≠pm):FD P w C H' p as ap an m fs:=by
 obtain⟨⟨dx,h1⟩,⟨sv,h2,h3⟩,⟨pv,h4,h5⟩,h6,h7⟩:=x;have r:∀ b o,H b=some o->b≠pm->H' b=some o:=fun b o e z=>st.rest b o e (by simpa using z);have k:aA H H':=fun b xs e=>r _ _ e (bz e hm nofun);obtain⟨ψ,h8⟩:=fc h6;exact⟨⟨dx,r _ _ h1 (bz h1 hm nofun)⟩,⟨sv,r _ _ h2 (bz h2 hm nofun),h3.mono fun _ _ z=>z.mono k⟩,⟨pv,r _ _ h4 (bz h4 hm nofun),h5.mono fun _ _ z=>z.mono k⟩,h6.mono (fun b xs e=>k _ _ e) (by rw[r _ _ h8 ne,h8]),h7⟩
theorem Rn{P:Program}{w:World}{C:Addr}{H H':Hp}{p as ap an pm:Addr}{m:Int}{fs:Fs}{M:Mt}(x:FD P w C H p as ap an m fs)(st:az H H' [as,ap,an] [as,ap,an])(ne:pm∉[as,ap,an])(d:DN P w TP le1 H pm (jr M)):DN P w TP le1 H' pm (jr M):=by
 obtain⟨φ,h⟩:=fc d;exact d.mono (fun b xs e=>x.keep st _ _ e) (by rw[h];exact st.rest _ _ h ne)
theorem oH{P:Program}{w:World}{H H':Hp}{pm:Addr}{M:Mt}(s:aG H H')(d:DN P w TP le1 H pm (jr M)):DN P w TP le1 H' pm (jr M):=by
 obtain⟨φ,h⟩:=fc d;exact d.mono (fun b xs e=>s _ _ e) (by rw[h];exact s _ _ h)
theorem LR{c:dC}{es:List En}(h:∀ e∈es,CQ c e)(r40:c.rs.length<=40)(d60:c.ds.length<=63):∀ e∈es,∀ x,jJ e=some x->x<400:=by
 intro e he x hx;have:=h e he
 cases e with
 | inn r=>
  cases hx
  have:r<c.rs.length:=this;lia
 | door k=>
  cases hx
  have:k<c.ds.length:=this;lia
 | _=>cases hx
theorem eV:aH ["chart","most","finds","met","told","row","event","path","rooms","doors"] ["chart","most"] (aB sS):=eO
theorem Ux{n m':Nat}{f gi g1 g2 g3 g4:Addr}{fd di d1 d2 d3 d4:FuncData}(F:cY K "seen" "seen" sS f fd)(cl:uy K C)(nS:bR K C "stands")(nP:bR K C "paths")(mR:Meth K C "row_of" g3)(MkF:Mk K C gi)
  (lM:aM P w K mg base aW m' gi di ["self","most"] (PL P w C)) (lK:Binds K di ["self","most"] []) (Bh:mg "Finds" = some (.ref C))
  (rJ:Dp P w K mg base aW (m'+1) g1 d1 ["chart"] (uU n) "begun")
  (rK:Dp P w K mg base aW (m'+1) g2 d2 ["chart","stand","event"] (uV n) "after")
  (Ae:aM P w K mg base (ou P w) (m'+1) g3 d3 ["self","stand","path"] (Jh P w C CT)) (zx:Binds K d3 ["self","stand","path"] [])
  (Sv:Dp P w K mg base aW (m'+1) g4 d4 ["met","record","path"] (Gs P w) "note")
  (aR:mg "len" = none) (aY:mg "range" = none):aM P w K mg base (ou P w) (m'+2) f fd ["chart","most"] (Oo CT n):=by
 refine F.okX eV (fun vs H Q E h=>?_) (fun cdv A outer s H vs Q E hr h=>?_)
 ·refine aJ fun G_ g_=>?_;obtain⟨pc,m,c,bs,ne,rfl,_⟩:=h;apply g_;clear g_ G_;rfl
 refine aJ fun G_ g_=>?_;obtain⟨pc,m,c,bs,ne,rfl,hX,ok,n3,m1,qF2,VM,q⟩:=h;apply g_;clear g_ G_
 refine⟨_,(zE (zK (i:=2) eV.nd rfl (Or.inl rfl) (ug MkF lM hr rfl Bh lK .nil yE (zA (pv 1) zD)))
  (zE (zK (i:=3) eV.nd rfl (Or.inr rfl) (KC TP le1))
  (zE (zK (i:=4) eV.nd rfl (Or.inl rfl) (pC rJ hr (zA (pv 0) zD)))
  (zE (yI (qd (pv 2) cl mR Ae hr zx .nil (QL fun _ _ _ z=>z) (zA (yB zH (pv 4) zB (fun _ _=>rfl)) (zA (zW zD) zD))))
  (zE (yI (pC Sv hr (zA (pv 3) (zA (yB zH (pv 4) zB (fun _ _=>rfl)) (zA (zW zD) zD)))))
  (zE (zK (i:=5) eV.nd rfl (Or.inl rfl) zB)
  (zZ (Q8 (WN fun _ _ _ z=>z) (mQ (Bt rfl rfl) (zL lR (pv 5) (zS zN rfl aR cA (zA (bh (pv 2) rfl) zD)) (zR _))
  (zZ (bU (Bt rfl rfl) rfl (bT rfl aY (zA (zS zN rfl aR cA (zA (yB zH (pv 0) zB (fun _ _=>rfl)) zD)) zD)) (yJ (i:=6) eV.nd rfl (Or.inl rfl))
  (zE (zK (i:=7) eV.nd rfl (Or.inl rfl) (pH (yC (jZ.or uh w6) (yB yU (bh (pv 2) rfl) (pv 5) (fun _ _=>rfl)) (zW (zA (pv 6) zD)))))
  (zE (zK (i:=4) eV.nd rfl (Or.inl rfl) (pC rK hr (zA (pv 0) (zA (yB yU (bh (pv 2) rfl) (pv 5) (fun _ _=>rfl)) (zA (pv 6) zD)))))
  (zE (yI (qd (pv 2) cl mR Ae hr zx .nil (Xk fun _ _ _ z=>z) (zA (yB zH (pv 4) zB (fun _ _=>rfl)) (zA (pv 7) zD))))
  (zG (yI (pC Sv hr (zA (pv 3) (zA (yB zH (pv 4) zB (fun _ _=>rfl)) (zA (pv 7) zD))))))))))
  (zG (Q9 (i:=5) eV.nd rfl (Or.inl rfl) zB R4)))))
  (zE (qX (i:=8) (aX:=[(3,"met")]) rfl eV.nd rfl (Or.inl rfl) (show bD (aB sS) ["chart","most","finds","met","told","row","event","path","rooms","doors"] _ _ _ from xN)
   (bT rfl aY (zA (zS zN rfl aR cA (zA (yB zH (pv 0) zB (fun _ _=>rfl)) zD)) zD)) (fun _ _ _ _ _ _=>cD) (fun _ _ _ _ _ _=>(show PE _ _ (Am P w TP le1 (Cz 1) (Tj (qC (tC (.str "in")) (qC (Cz 0) Oh)))) from Dw hr.units TP le1 (pv 1) (zW (zA zP (zA (pv 0) zD))) ⟨rfl,rfl,rfl,rfl⟩)))
  (zE (qX (i:=9) (aX:=[(3,"met")]) rfl eV.nd rfl (Or.inl rfl) (show bD (aB sS) ["chart","most","finds","met","told","row","event","path","rooms","doors"] _ _ _ from xN)
   (bT rfl aY (zA (zS zN rfl aR cA (zA (yB zH (pv 0) zB (fun _ _=>rfl)) zD)) zD)) (fun _ _ _ _ _ _=>cD) (fun _ _ _ _ _ _=>(show PE _ _ (Am P w TP le1 (Cz 1) (Tj (qC (tC (.str "door")) (qC (Cz 0) Oh)))) from Dw hr.units TP le1 (pv 1) (zW (zA zP (zA (pv 0) zD))) ⟨rfl,rfl,rfl,rfl⟩)))
  (zG (zO (zW (zA (pv 8) (zA (pv 9) zD)))))))))))))),?_⟩
 refine aJ fun G_ g_=>?_;obtain⟨pb,pn,t0,pd0,bv,nv,T9,dv0,h1,h2,h3,h4,h5,h6,h7,h8,h9,h10⟩:=id hX;apply g_;clear g_ G_;have YC:=h7.length;have YG:=h10.length;have r40:=ok.ok.r40;have d60:=ok.ok.d63;refine⟨_,rfl,fun x dx nx ndx Y0=>⟨x,dx,(m:Int),rfl,zC,fun as ap an H1 F1 GZ Hz nan keep=>⟨rfl,?_⟩⟩⟩
 have s1:aG H H1:=fun b o e=>by
  have z1:b≠x:=zM e nx;have z2:b≠dx:=zM e ndx;exact keep b o (by rw[zQ z1,zQ z2];exact e) z1
 have un:∀ b,upd (upd H dx (.own x)) x (.ins C dx []) b=none->H b=none:=fun b e=>by
  cases hb:H b with
  | none=>rfl
  | some o=>
   rw[zQ (zM hb nx),zQ (zM hb ndx),hb]at e
   cases e
 have nf:∀ b∈[as,ap,an],H b=none:=fun b z=>by
  rcases bI.mp z with z | z
  ·rw[z];exact un as GZ
  ·rcases bI.mp z with z | z
   ·rw[z];exact un ap Hz
   ·rw[cB.mp z];exact un an nan
 clear keep un GZ Hz nan;intro pm H1b hpm qGG Zj
 have s1b:aG H1 H1b:=fun b o e=>by rw[qGG,zQ (zM e hpm)];exact e
 have pmf:pm∉[as,ap,an]:=fun z=>F1.there _ z hpm;have npm:H pm=none:=s1.free hpm
 have nf1:∀ b∈[pm],H b=none:=fun b z=>by rw[cB.mp z];exact npm
 have qB8:an≠pm:=fun z=>pmf (by rw[<-z];simp);have s01:=s1.trans s1b;have F1b:=F1.mono s1b;refine⟨_,rfl,pc,c,bs,ne,rfl,hX.mono (aA.of s01),ok,n3,fun t ps pw wv bF s0 H2 BR j0 so0 s2 ht hS0 wK KJ hA Za=>?_⟩;refine aJ fun G_ g_=>?_;obtain⟨qa,qb⟩:=q bF s0 BR Za;have XR:=s01.trans s2;have F2:=F1b.mono s2;obtain⟨⟨dx',hx2⟩,_⟩:=id F2;apply g_;clear g_ G_;refine⟨_,rfl,x,dx',_,rfl,hx2,Kr _ _ _ _,_,rfl,aF (aK.of ht) rfl ⟨Nat.zero_le _,fun pe hpe=>?_⟩⟩;have s3:=zF hpe (.tup []);have i3:upd H2 pe (.tup []) pe=some (.tup (aC [])):=zC;generalize upd H2 pe (.tup [])=H3 at s3 i3 ⊢;have UJ:=XR.trans s3;have F3:=F2.mono s3;have Zj:DN P w TP le1 H1b pm (jr []):=Zj;have dn3:=oH (s2.trans s3) Zj;refine⟨x,ps,pe,as,ap,an,(m:Int),[],nl s0,[],rfl,F3,(fM.tail hS0 []).mono (aA.of s3),i3,Nat.zero_le _,(fun i z=>by cases z),fun _ _ H4 F4 xM=>?_,fun _ z=>absurd z (by show ¬ ((m:Int)<=((0:Nat):Int));lia)⟩;have GX:=qH UJ xM nf;have k34:=F3.keep xM;have Yv:=Rn F3 xM pmf dn3;have Zc:=k34 _ _ (s3 _ _ ht);have R9:H4 pw=some (.lst wv):=xM.rest _ _ (s3 _ _ wK) fun z=>F1b.there _ z KJ;have Zh:Al (fO H4) wv bF:=hA.mono fun _ _ z=>(z.mono (aA.of s3)).mono k34;refine⟨_,rfl,_,rfl,aF (aK.of Zc) rfl ⟨Nat.zero_le _,fun pe2 qFT=>?_⟩⟩;have s5:=zF qFT (.tup []);have i5:upd H4 pe2 (.tup []) pe2=some (.tup (aC [])):=zC;generalize upd H4 pe2 (.tup [])=H5 at s5 i5 ⊢;refine⟨pm,pw,pe2,[],[],wv,bF,[],rfl,oH s5 Yv,s5 _ _ R9,Zh.mono fun _ _ z=>z.mono (aA.of s5),Za,LR (Z3 ok.ok BR) r40 d60,i5,⟨List.nodup_nil,(fun _ z=>by cases z),fun _=>True.intro⟩,fun M6 H6 dn6 mt6 GR=>?_⟩;obtain⟨φ5,Yl⟩:=fc (oH s5 Yv);have F6:=(F4.mono s5).note GR Yl qB8;have s06:=qH (GX.trans s5) GR nf1;have hC5:∀ {Hi:Hp},aG H Hi->rN Hi pc c:=fun z=>(hX.ch ok).mono (aA.of z);have alc:All c (Jw c) n:=⟨ok.ok,wide ok.ok,fun d hd=>⟨(ok.g d hd).1,Nat.le_trans (ok.g d hd).2 n3⟩⟩
 have T4:c.tn<=20:=by have:=ok.t4;lia
 refine⟨fun σ' Hi => ∃(N:Nat)(fs:Fs)(ms:List (List En×Nat))(M:Mt)(o4 o5 o6 o7:Option V),σ'=[some (.ref pc),some (.int (m:Int)),some (.ref x),some (.ref pm),o4,o5,o6,o7,none,none]/\ao c ne s0 (N*ne) fs ms/\fs.length=N/\N<=m/\gZ c fs/\DN P w TP le1 Hi pm (jr M)/\jA Hi M (iD bF ne fs ms)/\aG H Hi,?_,?_⟩
 ·refine⟨fun μ σ' Hi => ∃(r:Nat)(fs:Fs)(ms:List (List En×Nat))(M:Mt)(o4 o6 o7:Option V),μ=m-r/\σ'=[some (.ref pc),some (.int (m:Int)),some (.ref x),some (.ref pm),o4,some (.int (r:Int)),o6,o7,none,none]/\ao c ne s0 (r*ne) fs ms/\r<=fs.length/\fs.length<=m/\gZ c fs/\FD P w C Hi x as ap an (m:Int) fs/\DN P w TP le1 Hi pm (jr M)/\jA Hi M (iD bF ne fs ms)/\aG H Hi,
   ⟨_,0,[(nl s0,[])],[],M6,_,none,none,rfl,rfl,by rw[Nat.zero_mul];exact .nil,Nat.zero_le _,m1,fun y hy=>by rw[cB.mp hy];exact⟨Az so0,j0⟩,F6,dn6,mt6,s06⟩,?_⟩
  rintro μ σ' Hi aP;refine aJ fun G_ g_=>?_;obtain⟨r,fs,ms,M,o4,o6,o7,rfl,rfl,FR,rl,flm,JB,Fi,dni,mti,si⟩:=aP;obtain⟨⟨dxi,hxi⟩,⟨sv,hsv,Ye⟩,_⟩:=id Fi;apply g_;clear g_ G_;have Y9:=Ye.length;rw[bZ]at Y9;refine⟨_,rfl,_,rfl,x,C,dxi,_,_,rfl,hxi,cl,nS,uG _ _ _ _,iZ rfl (.inl (aQ.of hsv)) (aq ⟨_,rfl,?_⟩)⟩;rw[Y9];refine fH (fun z=>?_) (fun z=>?_)
  ·have z:=of_decide_eq_true z
   have ZP:r<fs.length:=by lia
   refine⟨fun σ2 H2 => ∃(dI:Fs)(jV:List (List En×Nat))(M2:Mt)(o4 o6 o7:Option V),σ2=[some (.ref pc),some (.int (m:Int)),some (.ref x),some (.ref pm),o4,some (.int ((r+1:Nat):Int)),o6,o7,none,none]/\ao c ne s0 ((r+1)*ne) dI jV/\r+1<=dI.length/\dI.length<=m/\gZ c dI/\FD P w C H2 x as ap an (m:Int) dI/\DN P w TP le1 H2 pm (jr M2)/\jA H2 M2 (iD bF ne dI jV)/\aG H H2,?_,?_⟩
   ·rintro σ2 H2 aP;refine aJ fun G_ g_=>?_;obtain⟨dI,jV,M2,p4,p6,p7,y1,y2,y3,y4,y5⟩:=aP;apply g_;clear g_ G_;exact⟨m-(r+1),by lia,r+1,dI,jV,M2,p4,p6,p7,rfl,y1,y2,y3,y4,y5⟩
   refine aJ fun G_ g_=>?_;obtain⟨⟨sr,dM⟩,Ij⟩:∃ y,fs[r]? = some y:=⟨_,gq ZP⟩;apply g_;clear g_ G_;have uM:=JB _ (Gf Ij);have YJ:=Bs FR _ (Gf Ij);have lpr:=zf FR _ (Gf Ij);simp only at lpr uM YJ;have rne:r*ne<=2400:=Nat.le_trans (Nat.mul_le_mul (Nat.le_of_lt (show r<300 by lia)) VM) (by decide);refine⟨fun σ2 H2 => ∃(dI:Fs)(jV:List (List En×Nat))(M2:Mt)(o4 o6 o7:Option V),σ2=[some (.ref pc),some (.int (m:Int)),some (.ref x),some (.ref pm),o4,some (.int (r:Int)),o6,o7,none,none]/\ao c ne s0 ((r+1)*ne) dI jV/\r+1<=dI.length/\dI.length<=m/\gZ c dI/\FD P w C H2 x as ap an (m:Int) dI/\DN P w TP le1 H2 pm (jr M2)/\jA H2 M2 (iD bF ne dI jV)/\aG H H2,?_,?_⟩
   ·refine⟨_,rfl,aF (aK.of (si _ _ h1)) rfl (iZ rfl (.inr (aK.of (si _ _ h4))) ⟨_,rfl,?_⟩)⟩;rw[h5];refine⟨by lia,by lia,?_⟩;refine cT (lo:=0) (n:=ne) (fun i σ2 H'=>∃(dI more:Fs)(jV:List (List En×Nat))(M2:Mt)(o4 o6 o7:Option V),σ2=[some (.ref pc),some (.int (m:Int)),some (.ref x),some (.ref pm),o4,some (.int (r:Int)),o6,o7,none,none]/\ao c ne s0 (r*ne+i) dI jV/\dI=fs++more/\dI.length<=m/\gZ c dI/\FD P w C H' x as ap an (m:Int) dI/\DN P w TP le1 H' pm (jr M2)/\jA H' M2 (iD bF ne dI jV)/\aG H H')
     ⟨fs,[],ms,M,_,_,_,rfl,FR,by simp,flm,JB,Fi,dni,mti,si⟩ ?_ ?_
    ·rintro i σ2 H' hi aP;refine aJ fun G_ g_=>?_;obtain⟨dI,more,jV,M2,p4,p6,p7,rfl,Nq,e1,Vi,CK,F2,dn2,mt2,sH⟩:=aP
     have wJ:dI[r]? = some (sr,dM):=by rw[e1,Ck ZP];exact Ij
     have hdiv:(r*ne+i)/ne=r:=by
      rw[Nat.mul_comm,Nat.mul_add_div (by lia),Nat.div_eq_of_lt hi,Nat.add_zero]
     have hmod:(r*ne+i)%ne=i:=by
      rw[Nat.mul_comm,Nat.mul_add_mod,Nat.mod_eq_of_lt hi]
     obtain⟨⟨dx3,hx3⟩,⟨sv3,qFC,qFB⟩,⟨pv3,qFH,qFG⟩,_⟩:=id F2;obtain⟨v0,hv0,q0,rfl,hq0⟩:=qFB.get (k:=r) (r:=sr) (by rw[gf,wJ];rfl);obtain⟨v1,hv1,q1,rfl,hq1⟩:=qFG.get (k:=r) (r:=dM) (by rw[gf,wJ];rfl);apply g_;clear g_ G_;refine⟨fun v H2 => ∃ q:Addr,v = .ref q/\aG H' H2/\H2 q=some (.tup (aC (dM++[i]))),?_,?_⟩
     ·refine⟨_,rfl,x,C,dx3,_,_,rfl,hx3,cl,nP,Ks _ _ _ _,_,rfl,bY (aQ.of qFH) (yQ hv1) ⟨_,rfl,(zI (by show 1<=1000;decide)),fun pe hpe=>?_⟩⟩;rw[Int.zero_add];have s4:=zF hpe (.tup [V.int (i:Int)]);have i4:upd H' pe (.tup [V.int (i:Int)]) pe=some (.tup [V.int (i:Int)]):=zC;generalize upd H' pe (.tup [V.int (i:Int)])=H4 at s4 i4 ⊢;have TX:=s4 _ _ hq1
      cases dM with
      | nil=>exact .inr ⟨q1,pe,_,rfl,rfl,aK.of TX,aK.of i4,pe,rfl,s4,i4⟩
      | cons y dM=>
       refine .inl ⟨q1,pe,_,_,rfl,rfl,aK.of TX,aK.of i4,(by intro z;cases z),?_,(fun z=>by cases z),fun _ p5 O6=>?_⟩
       ·rw[sizeLine_eq,zU];simp only[List.length_cons,List.length_nil]at lpr ⊢;lia
       ·exact⟨p5,rfl,s4.trans (zF O6 _),by rw[zC];unfold aC;rw[jd];rfl⟩
     rintro _ H3 aP;refine aJ fun G_ g_=>?_;obtain⟨pq,rfl,s3,hpq⟩:=aP;apply g_;clear g_ G_;refine⟨_,rfl,_,rfl,x,C,dx3,_,_,rfl,s3 _ _ hx3,cl,nS,uG _ _ _ _,_,rfl,bY (aQ.of (s3 _ _ qFC)) (yQ hv0) ⟨_,rfl,pc,q0,c,(i:Int),sr,(by rw[Int.zero_add];rfl),hC5 (sH.trans s3),alc,hq0.mono (aA.of s3),uM.1,uM.2,YJ,T4,fun t ps' pw wv es s' H4 AR j' so' s4 ht hS' wK KJ hA lw=>?_⟩⟩;have O2:=s3.trans s4;have F4:=F2.mono O2;have Yv:=oH O2 dn2;have mt4:=mt2.mono (aA.of O2);have qBY:=s4 _ _ hpq
     have leS:es.length<=1000000:=by rw[<-hA.length];exact lw
     have clt:=LR (Z4 ok.ok AR) r40 d60;refine aJ fun G_ g_=>?_;obtain⟨⟨dx4,hx4⟩,_⟩:=id F4;apply g_;clear g_ G_;have Te:=ao.cell Nq (by lia) (by rw[hdiv];exact wJ) (by rw[hmod];exact AR);have RC:=Lx (bF:=bF) (es:=es) (s':=nl s') (j:=xY dI (nl s')) Nq (by rw[hdiv];exact wJ);rw[hmod]at Te RC;have fin:∀(H5:Hp),FD P w C H5 x as ap an (m:Int) (rE dI (nl s') (dM++[i]))->DN P w TP le1 H5 pm (jr M2)->aA H4 H5->H5 pw=some (.lst wv)->aG H H5->(rE dI (nl s') (dM++[i])).length<=m →
       ∃ v,[some (V.ref pc),some (.int (m:Int)),some (.ref x),some (.ref pm),some (.ref t),some (.int (r:Int)),some (.int (0+(i:Int))),some (.ref pq),none,none][3]? = some (some v)/\∃ v1,[some (V.ref pc),some (.int (m:Int)),some (.ref x),some (.ref pm),some (.ref t),some (.int (r:Int)),some (.int (0+(i:Int))),some (.ref pq),none,none][7]? = some (some v1)/\v = .ref pm/\v1 = .ref pq/\Gs P w [.ref pm,.ref pw,.ref pq] H5 (fun _ H7 => ∃(dI more:Fs)(jV:List (List En×Nat))(M2:Mt)(o4 o6 o7:Option V),[some (V.ref pc),some (.int (m:Int)),some (.ref x),some (.ref pm),some (.ref t),some (.int (r:Int)),some (.int (0+(i:Int))),some (.ref pq),none,none]=[some (.ref pc),some (.int (m:Int)),some (.ref x),some (.ref pm),o4,some (.int (r:Int)),o6,o7,none,none]/\ao c ne s0 (r*ne+(i+1)) dI jV/\dI=fs++more/\dI.length<=m/\gZ c dI/\FD P w C H7 x as ap an (m:Int) dI/\DN P w TP le1 H7 pm (jr M2)/\jA H7 M2 (iD bF ne dI jV)/\aG H H7) E0:=by
      intro H5 F5 dn5 k5 qFF s5 Zi;refine⟨_,rfl,_,rfl,rfl,rfl,pm,pw,pq,M2,iD bF ne dI jV,wv,es,dM++[i],rfl,dn5,qFF,hA.mono fun _ _ z=>z.mono k5,leS,clt,k5 _ _ qBY,mt4.mono k5,fun M7 H7 dn7 mt7 st7=>?_⟩;refine aJ fun G_ g_=>?_;obtain⟨φ5,Yl⟩:=fc dn5;obtain⟨m3,em3,_⟩:=jy dI (nl s') (dM++[i]);apply g_;clear g_ G_;exact⟨_,more++m3,_,M7,_,_,_,rfl,Te,by rw[em3,e1,List.append_assoc],Zi,CK.add so' j',F5.note st7 Yl qB8,dn7,by rw[RC];exact mt7,qH s5 st7 nf1⟩
     refine⟨_,rfl,x,dx4,_,rfl,hx4,Kr _ _ _ _,_,rfl,aF (aK.of ht) rfl ⟨_,rfl,x,ps',pq,as,ap,an,(m:Int),dI,nl s',dM++[i],rfl,F4,fM.tail hS' [],qBY,by lia,fun j hj=>?_,fun hn hlt H5 F5 rQ=>?_,fun hn hle dx2 pl pv H5 rQ z1 z2 z3 z4 z5=>?_⟩⟩
     ·refine aJ fun G_ g_=>?_;obtain⟨ea,_⟩:=dB (p:=dM++[i]) hj;obtain⟨_,_,_,_,_,_,gg⟩:=fin H4 (by rw[ea];exact F4) Yv (fun _ _ z=>z) wK (sH.trans O2) (by rw[ea];exact Vi);apply g_;clear g_ G_;exact⟨_,rfl,_,rfl,aF (aK.of ht) rfl ⟨_,rfl,gg⟩⟩
     ·refine aJ fun G_ g_=>?_;obtain⟨ea,_⟩:=bj (p:=dM++[i]) hn;have pwf:pw∉[as,ap,an]:=fun z=>(F2.mono s3).there _ z KJ;have k45:=F4.keep rQ;obtain⟨_,_,_,_,_,_,gg⟩:=fin H5 (by rw[ea];exact F5) (Rn F4 rQ pmf Yv) k45 (rQ.rest _ _ wK pwf) (qH (sH.trans O2) rQ nf) (by rw[ea,dW,gj];lia);apply g_;clear g_ G_;exact⟨_,rfl,_,rfl,aF (aK.of (k45 _ _ ht)) rfl ⟨_,rfl,gg⟩⟩
     ·rw[(bj (p:=dM++[i]) hn).1]at Te;have sH4:=sH.trans O2;exact qb _ _ _ Te (by rw[dW,gj];lia) dx2 pl pv H5 ⟨(fun b hb=>by cases hb),fun b o e _=>qH sH4 rQ nf b o e⟩ (sH4.free z1) (sH4.free z2) z3 z4 z5
    ·rintro σ2 H' aP;refine aJ fun G_ g_=>?_;obtain⟨dI,more,jV,M2,p4,p6,p7,rfl,Nq,e1,Vi,CK,F2,dn2,mt2,sH⟩:=aP;apply g_;clear g_ G_;exact⟨dI,jV,M2,p4,p6,p7,rfl,by rw[Nat.add_mul,Nat.one_mul];exact Nq,by rw[e1,dW];lia,Vi,CK,F2,dn2,mt2,sH⟩
   ·rintro _ H' aP;refine aJ fun G_ g_=>?_;obtain⟨dI,jV,M2,p4,p6,p7,rfl,Nq,e1,Vi,CK,F2,dn2,mt2,sH⟩:=aP;apply g_;clear g_ G_;refine⟨_,rfl,aq ?_⟩;exact⟨dI,jV,M2,p4,p6,p7,rfl,Nq,e1,Vi,CK,F2,dn2,mt2,sH⟩
  ·have z:=of_decide_eq_false z;exact⟨r,fs,ms,M,o4,_,o6,o7,rfl,FR,by lia,by lia,JB,dni,mti,si⟩
 rintro _ Hi aP;refine aJ fun G_ g_=>?_;obtain⟨N,fs,ms,M,o4,o5,o6,o7,rfl,FR,fl,Nm,JB,dni,mti,si⟩:=aP;apply g_;clear g_ G_;have comp:∀(Hj:Hp)(cd:Nat->Nat)(k:Nat)(wd:Str)(cs:St)(Z:List V->Hp->Prop),cs=[some (.ref pm)]->k<=100->(∀ j,lH (cd j)=[.inr wd,.inl (j:Int)])->aG Hi Hj->(∀(acc:List V)(H':Hp),aG Hj H'->Al (CP H') acc ((List.range k).map fun j=>bK (iD bF ne fs ms) (cd j))->Z acc H') →
   jQ (Vw 0 k) cs qA0 (Am P w TP le1 (Cz 1) (Tj (qC (tC (.str wd)) (qC (Cz 0) Oh)))) Hj Z:=by
  intro Hj cd k wd cs Z ec k60 hcd sj hZ;subst ec;refine ir (fun i acc H'=>aG Hj H'/\Al (CP H') acc ((List.range i).map fun j=>bK (iD bF ne fs ms) (cd j))) ⟨aG.refl _,.nil⟩ ?_ ?_
  ·rintro i acc H' hi ⟨sH,hA⟩;have la:=hA.length;rw[bZ,List.length_range]at la;have dn':=oH (sj.trans sH) dni;refine⟨_,rfl,pm,_,rfl,dn',_,rfl,zI (by show 2<=1000;decide),fun pq hpq=>?_⟩;rw[Int.zero_add];have s4:=zF hpq (.tup [V.str wd,V.int (i:Int)]);have i4:upd H' pq (.tup [V.str wd,V.int (i:Int)]) pq=some (.tup [V.str wd,V.int (i:Int)]):=zC;generalize upd H' pq (.tup [V.str wd,V.int (i:Int)])=H4 at s4 i4 ⊢;refine⟨pq,_,lH (cd i),rfl,oH s4 dn',⟨pq,_,rfl,i4,by rw[hcd];exact .cons rfl (.cons rfl .nil)⟩,zI (by lia),sH.trans s4,?_⟩;rw[List.range_succ,jd,Ak];exact (hA.mono fun _ _ z=>z.mono (aA.of s4)).snoc ((mti.mono (aA.of (sj.trans (sH.trans s4)))).get _)
  ·rintro acc H' ⟨sH,hA⟩;exact hZ acc H' sH hA
 refine⟨_,rfl,aF (aK.of (si _ _ h1)) rfl (iZ rfl (.inr (aK.of (si _ _ h6))) ⟨_,rfl,?_⟩)⟩;rw[YC];refine⟨by lia,by lia,comp Hi (fun j=>2*j) c.rs.length "in" _ _ rfl (by lia) Ka (aG.refl _) fun S7 Hr sr hr' pr hpr=>?_⟩;have s7:=zF hpr (.lst S7);have i7:upd Hr pr (.lst S7) pr=some (.lst S7):=zC;generalize upd Hr pr (.lst S7)=H7 at s7 i7 ⊢;have si7:=sr.trans s7;refine⟨_,rfl,aF (aK.of ((si.trans si7) _ _ h1)) rfl (iZ rfl (.inr (aK.of ((si.trans si7) _ _ h9))) ⟨_,rfl,?_⟩)⟩;rw[YG];refine⟨by lia,by lia,comp H7 (fun j=>2*j+1) c.ds.length "door" _ _ rfl (by lia) za si7 fun S8 Hd sd hd' pd hpd=>?_⟩;have s8:=zF hpd (.lst S8);have i8:upd Hd pd (.lst S8) pd=some (.lst S8):=zC;generalize upd Hd pd (.lst S8)=H8 at s8 i8 ⊢;have s78:=sd.trans s8;refine⟨_,rfl,_,rfl,zI (by show 2<=1000;decide),fun tr htr=>?_⟩;have s9:=zF htr (.tup [V.ref pr,V.ref pd]);have i78:=s78 _ _ i7
 have hne:pr≠pd:=fun z=>by rw[<-z,sd _ _ i7]at hpd;cases hpd
 exact qa N fs ms tr pr pd S7 S8 _ FR fl Nm JB zC (s9 _ _ i78) (s9 _ _ i8) (hr'.mono fun _ _ z=>z.mono (aA.of (s7.trans (s78.trans s9)))) (hd'.mono fun _ _ z=>z.mono (aA.of (s8.trans s9))) (si.trans (si7.trans (s78.trans s9))) ((si.trans sr).free hpr) ((si.trans (si7.trans sd)).free hpd) hne
end
theorem Lr{fs more:Fs}{s:S4}{j:Nat}(h:rowOf fs s=some j):rowOf (fs++more) s=some j:=by
 unfold rowOf at h ⊢;rw[List.findIdx?_append,h];rfl
theorem Ls(fs:Fs)(s:S4)(p:List Nat):rowOf (rE fs s p) s=some (xY fs s):=by
 cases h:rowOf fs s with
 | some i=>rw[(dB h).1,(dB (p:=p) h).2];exact h
 | none=>
  rw[(bj h).1,(bj (p:=p) h).2];unfold rowOf at h ⊢;rw[List.findIdx?_append,h];simp
theorem VV(s:S4):dG (nl s)=dG s:=rfl
noncomputable def placeOf(ss:List S4)(s:S4):Option Nat:=ss.findIdx? fun x=>decide (dG x=dG s)
theorem yg(fs:Fs)(s:S4):placeOf (fs.map (·.1)) s=rowOf fs s:=by
 unfold placeOf rowOf;rw[List.findIdx?_map];rfl
section
variable{c:dC}{ne:Nat}{s0:S4}
theorem zg{i:Nat}{fs:Fs}{ms:List (List En×Nat)}(h:ao c ne s0 i fs ms):∀ k,k<i->∃ s p es s' j,fs[k/ne]? = some (s,p)/\Ja c ((k%ne:Nat):Int) s es s'/\ms[k]? = some (es,j)/\rowOf fs s'=some j:=by
 induction h with
 | nil=>intro k hk;lia
 | @cell i fs ms s s' p es h h0 h1 h2 ih=>
  intro k hk;obtain⟨more,em,_⟩:=jy fs (nl s') (p++[i%ne]);have lm:=ig h
  by_cases e:k=i
  ·subst e;refine⟨s,p,es,s',_,?_,h2,?_,Ls fs (nl s') _⟩
   ·rw[em,Ck (lQ.mp h1).1];exact h1
   ·rw[List.getElem?_append_right (by lia),lm];simp
  ·obtain⟨a,b,d,f,j,g1,g2,g3,g4⟩:=ih k (by lia);refine⟨a,b,d,f,j,?_,g2,?_,?_⟩
   ·rw[em,Ck (lQ.mp g1).1];exact g1
   ·rw[Ck (by lia)];exact g3
   ·rw[em];exact Lr g4
noncomputable def fP(ne:Nat)(ms:List (List En×Nat)):Nat->List En->List Nat->Option (Nat×List En)
 | pl,es,[]=>some (pl,es)
 | pl,_,e::p=>if e<ne then match ms[pl*ne+e]? with
  | some (es',i)=>fP ne ms i es' p
  | none=>none else none
theorem rY{ne:Nat}{ms:List (List En×Nat)}{e:Nat}{p:List Nat}{pl:Nat}{es:List En}{y:Nat×List En}(h:fP ne ms pl es (e::p)=some y):e<ne/\∃ es' i,ms[pl*ne+e]? = some (es',i)/\fP ne ms i es' p=some y:=by
 unfold fP at h
 by_cases z:e<ne
 ·rw[if_pos z]at h
  cases hm:ms[pl*ne+e]? with
  | none=>rw[hm]at h;cases h
  | some w=>rw[hm]at h;exact⟨z,w.1,w.2,rfl,h⟩
 ·rw[if_neg z]at h;cases h
theorem Aj{ne:Nat}{ms:List (List En×Nat)}{e:Nat}{p:List Nat}{pl i:Nat}{es es':List En}{y:Nat×List En}(h0:e<ne)(h1:ms[pl*ne+e]? = some (es',i))(h2:fP ne ms i es' p=some y):fP ne ms pl es (e::p)=some y:=by
 unfold fP;rw[if_pos h0,h1];exact h2
theorem ph{ne:Nat}{ms more:List (List En×Nat)}:∀(p:List Nat)(pl:Nat)(es:List En)(y:Nat×List En),fP ne ms pl es p=some y->fP ne (ms++more) pl es p=some y
 | [],_,_,_,h=>h
 | e::p,pl,es,y,h=>by
  obtain⟨z,es',i,hm,hw⟩:=rY h;exact Aj z (by rw[Ck (lQ.mp hm).1];exact hm) (ph p _ _ y hw)
theorem rW{ne:Nat}{ms:List (List En×Nat)}(e:Nat)(z:e<ne):∀(p:List Nat)(pl:Nat)(es:List En)(q:Nat)(es1 es2:List En)(j:Nat),fP ne ms pl es p=some (q,es1)->ms[q*ne+e]? = some (es2,j)->fP ne ms pl es (p++[e])=some (j,es2)
 | [],pl,es,q,es1,es2,j,h,hm=>by
  cases h
  exact Aj z hm rfl
 | f::p,pl,es,q,es1,es2,j,h,hm=>by
  obtain⟨y,es',i,hk,hw⟩:=rY h;exact Aj y hk (rW e z p _ _ q es1 es2 j hw hm)
theorem N5{i:Nat}{fs:Fs}{ms:List (List En×Nat)}(h:ao c ne s0 i fs ms)(hi:0<i):0<ne:=by
 cases h with
 | nil=>lia
 | cell _ h0 _ _=>exact h0
theorem qy(i ne:Nat):i/ne*ne+i%ne=i:=by rw[Nat.mul_comm];exact Nat.div_add_mod i ne
theorem My(bF:List En){i:Nat}{fs:Fs}{ms:List (List En×Nat)}(h:ao c ne s0 i fs ms):∀ r s p,fs[r]? = some (s,p)->∃ es,fP ne ms 0 bF p=some (r,es):=by
 induction h with
 | nil=>
  intro r s p hr
  cases r with
  | zero=>
   cases hr
   exact⟨bF,rfl⟩
  | succ r=>cases hr
 | @cell i fs ms s s' p es h h0 h1 h2 ih=>
  intro r t q hr;have lm:=ig h
  cases hrow:rowOf fs (nl s') with
  | some j=>
   rw[(dB hrow).1]at hr;obtain⟨es',w⟩:=ih r t q hr;exact⟨es',ph _ _ _ _ w⟩
  | none=>
   rw[(bj hrow).1]at hr
   by_cases k:r<fs.length
   ·rw[Ck k]at hr;obtain⟨es',w⟩:=ih r t q hr;exact⟨es',ph _ _ _ _ w⟩
   ·have hl:=(lQ.mp hr).1;rw[dW,gj]at hl
    obtain rfl:r=fs.length:=by lia
    rw[Sy (bM _),Nat.sub_self]at hr
    cases hr
    obtain⟨es',w⟩:=ih _ _ _ h1;refine⟨es,rW (i%ne) (Nat.mod_lt _ h0) p 0 bF (i/ne) es' es _ (ph _ _ _ _ w) ?_⟩;rw[qy,Sy (by lia),lm,Nat.sub_self,(bj (p:=p++[i%ne]) hrow).2];rfl
theorem NQ(bF:List En){i:Nat}{fs:Fs}{ms:List (List En×Nat)}(h:ao c ne s0 i fs ms){k:Nat}(hk:k<i):∃ es j,ms[k]? = some (es,j)/\fP ne ms 0 bF (oY fs ne k)=some (j,es):=by
 obtain⟨s,p,es,s',j,g1,g2,g3,g4⟩:=zg h k hk;obtain⟨es',w⟩:=My bF h _ _ _ g1;refine⟨es,j,g3,?_⟩;unfold oY;rw[g1];exact rW (k%ne) (Nat.mod_lt _ (N5 h (by lia))) p 0 bF (k/ne) es' es j w (by rw[qy];exact g3)
end
theorem wW{ne:Nat}{fs:Fs}{x:Nat}:∀(ms:List (List En×Nat))(k:Nat)(y:List En×List Nat),(jC ne fs k ms).find? (fun y=>dH y.1 x)=some y->∃ j m,ms[j]? = some m/\dH m.1 x=true/\y.2=oY fs ne (k+j)
 | [],_,_,h=>by cases h
 | m::ms,k,y,h=>by
  unfold jC at h;rw[List.find?_cons]at h
  cases hm:dH m.1 x with
  | true=>
   rw[hm]at h
   cases h
   exact⟨0,m,rfl,hm,rfl⟩
  | false=>
   rw[hm]at h;obtain⟨j,m',h1,h2,h3⟩:=wW ms (k+1) y h;exact⟨j+1,m',by simpa using h1,h2,by rw[h3,show k+1+j=k+(j+1) by lia]⟩
theorem wB{ne:Nat}{fs:Fs}{x:Nat}:∀(ms:List (List En×Nat))(k:Nat),(jC ne fs k ms).find? (fun y=>dH y.1 x)=none->∀ m∈ms,dH m.1 x=false
 | [],_,_=>fun _ hm=>by cases hm
 | m::ms,k,h=>by
  unfold jC at h;rw[List.find?_cons]at h
  cases hm:dH m.1 x with
  | true=>rw[hm]at h;cases h
  | false=>
   rw[hm]at h;intro y hy;rcases bI.mp hy with rfl | hy
   ·exact hm
   ·exact wB ms (k+1) h y hy
theorem wU{c:dC}{ne:Nat}{s0:S4}{i:Nat}{fs:Fs}{ms:List (List En×Nat)}{bF:List En}{x:Nat}{p:List Nat}(h:ao c ne s0 i fs ms)(hf:bK (iD bF ne fs ms) x=some p):∃ j es,fP ne ms 0 bF p=some (j,es)/\dH es x=true:=by
 unfold bK iD at hf;rw[List.find?_cons]at hf
 cases h0:dH bF x with
 | true=>
  simp only[h0]at hf
  cases hf
  exact⟨0,bF,rfl,h0⟩
 | false=>
  simp only[h0]at hf
  cases hy:(jC ne fs 0 ms).find? (fun y=>dH y.1 x) with
  | none=>rw[hy]at hf;cases hf
  | some y=>
   rw[hy]at hf
   cases hf
   obtain⟨j,m,h1,h2,h3⟩:=wW ms 0 y hy;have hj:=(lQ.mp h1).1;rw[ig h]at hj;obtain⟨es,i',g1,g2⟩:=NQ bF h hj;rw[h1]at g1
   cases g1
   rw[Nat.zero_add]at h3;exact⟨i',es,by show fP ne ms 0 bF y.2=_;rw[h3];exact g2,h2⟩
theorem wV{ne:Nat}{fs:Fs}{ms:List (List En×Nat)}{bF:List En}{x:Nat}(hf:bK (iD bF ne fs ms) x=none):dH bF x=false/\∀ m∈ms,dH m.1 x=false:=by
 unfold bK iD at hf;rw[List.find?_cons]at hf
 cases h0:dH bF x with
 | true=>simp only[h0]at hf;cases hf
 | false=>
  simp only[h0]at hf;exact⟨rfl,wB ms 0 (by simpa using hf)⟩
theorem Eh{c:dC}{ne:Nat}{s0:S4}{N i m:Nat}{fs fs':Fs}{ms wC:List (List En×Nat)}(h:ao c ne s0 (N*ne) fs ms)(e:fs.length=N)(l:N<=m)(h':ao c ne s0 i fs' wC)(e':fs'.length=m+1):False:=by
 have hi:=wR h e h';obtain⟨f2,m2,more,jV,g1,g2,g3,_⟩:=tK h i hi;obtain⟨rfl,rfl⟩:=qx h' g1;have:=congrArg List.length g2;rw[dW]at this;lia
theorem Pk{c:dC}{ne:Nat}{s0:S4}{N N':Nat}{fs fs':Fs}{ms wC:List (List En×Nat)}(h:ao c ne s0 (N*ne) fs ms)(e:fs.length=N)(h':ao c ne s0 (N'*ne) fs' wC)(e':fs'.length=N'):N=N'/\fs=fs'/\ms=wC:=by
 have a:=wR h e h';have b:=wR h' e' h
 have z:N*ne=N'*ne:=by lia
 obtain⟨rfl,rfl⟩:=qx (z▸h) h';exact⟨by lia,rfl,rfl⟩
noncomputable def HW:Option Nat->V
 | none=>.non
 | some i=>.int (i:Int)
noncomputable def Ar:Sp:=fun vs H Q _ => ∃(as ps:Addr)(sv:List V)(ss:List S4)(s:S4),vs=[.ref as,.ref ps]/\H as=some (.lst sv)/\Al (JF H) sv ss/\ss.length<=1000/\fM H ps s/\Q (HW (placeOf ss s)) H
noncomputable def O1:Bool->Str
 | false => "in"
 | true => "door"
noncomputable def Fo:Bool->Nat->Nat
 | false,n=>2*n
 | true,n=>2*n+1
noncomputable def wz(H:Hp)(pw:Addr)(es:List En):Prop:=∃ wv:List V,H pw=some (.lst wv)/\Al (fO H) wv es
noncomputable def Ow:Sp:=fun vs H Q _ => ∃(pw:Addr)(b:Bool)(n:Nat)(es:List En),vs=[.ref pw,.str (O1 b),.int (n:Int)]/\wz H pw es/\Q (.bl (dH es (Fo b n))) H
theorem HR{ss:List S4}{s:S4}{i:Nat}(hb:∀ j,j<i->∀ x,ss[j]? = some x->dG x≠dG s){x:S4}(hx:ss[i]? = some x)(h:dG x=dG s):placeOf ss s=some i:=by
 unfold placeOf;have hi:=(lQ.mp hx).1;rw[List.findIdx?_eq_some_iff_getElem];refine⟨hi,?_,?_⟩
 ·rw[gq hi]at hx;rw[jO hx];exact decide_eq_true h
 ·intro j hj z;exact hb j hj _ (gq (by lia)) (of_decide_eq_true z)
theorem HS{ss:List S4}{s:S4}(hb:∀ j,j<ss.length->∀ x,ss[j]? = some x->dG x≠dG s):placeOf ss s=none:=by
 unfold placeOf;rw[List.findIdx?_eq_none_iff];intro x hx;obtain⟨j,hj,e⟩:=List.mem_iff_getElem.mp hx;exact decide_eq_false (hb j hj x (by rw[gq hj,e]))
theorem Yt(e:En)(b:Bool)(n:Nat):∃(s:Str)(x:V)(r:List V),e.row = .str s::x::r/\((decide (V.str s=V.str (O1 b)))=false->jJ e≠some (Fo b n))/\((decide (V.str s=V.str (O1 b)))=true->∃ k:Nat,x = .int (k:Int)/\(k=n↔jJ e=some (Fo b n))):=by
 cases e with
 | inn k=>
  refine⟨_,_,_,rfl,?_,?_⟩
  ·cases b
   ·exact fun z=>absurd z (by decide +kernel)
   ·exact fun _ z=>by have:=Option.some.inj z;simp only[Fo]at this;lia
  ·cases b
   ·exact fun _=>⟨k,rfl,by simp only[jJ,Fo,Option.some.injEq];lia⟩
   ·exact fun z=>absurd z (by decide +kernel)
 | door k=>
  refine⟨_,_,_,rfl,?_,?_⟩
  ·cases b
   ·exact fun _ z=>by have:=Option.some.inj z;simp only[Fo]at this;lia
   ·exact fun z=>absurd z (by decide +kernel)
  ·cases b
   ·exact fun z=>absurd z (by decide +kernel)
   ·exact fun _=>⟨k,rfl,by simp only[jJ,Fo,Option.some.injEq];lia⟩
 | out k=>cases b <;> exact⟨_,_,_,rfl,(fun _ z=>nomatch z),fun z=>absurd z (by decide +kernel)⟩
 | thr k=>cases b <;> exact⟨_,_,_,rfl,(fun _ z=>nomatch z),fun z=>absurd z (by decide +kernel)⟩
 | take k=>cases b <;> exact⟨_,_,_,rfl,(fun _ z=>nomatch z),fun z=>absurd z (by decide +kernel)⟩
 | rc r=>cases r <;> cases b <;> exact⟨_,_,_,rfl,(fun _ z=>nomatch z),fun z=>absurd z (by decide +kernel)⟩
section
variable{P:Program}{w:World}{K:bO}{mg:Str->Option Value}{base:Heap}{C CT:Addr}
theorem qF:aH ["_law_stands","_law_stand","_law_k"] ["_law_stands","_law_stand"] (aB nT):=eO
theorem QZ{f:Addr}{fd:FuncData}(F:cY K "_law_place" "_law_place" nT f fd)(aR:mg "len" = none)(aY:mg "range" = none):aM P w K mg base aW 1 f fd ["_law_stands","_law_stand"] Ar:=by
 refine F.ok qF (fun vs H Q E h=>?_) (fun cdv A outer s H vs Q E hr h=>?_)
 ·refine aJ fun G_ g_=>?_;obtain⟨as,ps,sv,ss,s,rfl,_⟩:=h;apply g_;clear g_ G_;rfl
 refine aJ fun G_ g_=>?_;obtain⟨as,ps,sv,ss,st,rfl,has,hA,l3,hS,q⟩:=h;apply g_;clear g_ G_
 refine⟨_,(zZ (bU PassesOwn.never rfl (bT rfl aY (zA (zS zN rfl aR cA (zA (pv 0) zD)) zD)) (yJ (i:=2) qF.nd rfl (Or.inl rfl))
  (zG (yD (zL (Xm hr.units (bN.sw (fun i=>decide (i<2)) (bN.leaf.tup.up 2 (by decide)) bN.leaf.tup.tup) (by decide)) (yB yU (pv 0) (pv 2) (fun _ _=>rfl)) (pv 1) (zR _))
  (zG (zO (pv 2)))
  zT)))
  (zG (zO bf))),?_⟩
 have lA:=hA.length;refine⟨fun σ' H'=>H'=H/\placeOf ss st=none,?_,?_⟩
 ·refine⟨_,rfl,iZ rfl (.inl (aQ.of has)) ⟨_,rfl,by lia,by lia,?_⟩⟩;refine cT (lo:=0) (fun i σ' H'=>H'=H/\(∃ o:Option V,σ'=[some (.ref as),some (.ref ps),o])/\∀ j,j<i->∀ x,ss[j]? = some x->dG x≠dG st) ⟨rfl,⟨_,rfl⟩,fun j hj=>absurd hj (Nat.not_lt_zero _)⟩ ?_ ?_
  ·rintro i σ' H' hi aP;refine aJ fun G_ g_=>?_;obtain⟨rfl,⟨o,rfl⟩,hb⟩:=aP
   have hi:i<ss.length:=by lia
   have ei:=gq hi;obtain⟨v,hv,a,rfl,ha⟩:=hA.get ei;apply g_;clear g_ G_;refine⟨_,rfl,_,rfl,bY (aQ.of has) ((by rw[Int.zero_add];exact yQ hv)) ⟨_,rfl,a,ps,dG ss[i],dG st,rfl,rfl,Ih ha,Ih hS,_,rfl,fH (fun z=>?_) (fun z=>?_)⟩⟩
   ·have z:=of_decide_eq_true z;rw[HR hb ei z]at q;refine⟨_,rfl,?_⟩;rw[Int.zero_add];exact q
   ·have z:=of_decide_eq_false z;refine⟨rfl,⟨_,rfl⟩,fun j hj x hx=>?_⟩
    by_cases e:j=i
    ·subst e;rw[ei]at hx;rw[<-jO hx];exact z
    ·exact hb j (by lia) x hx
  ·rintro σ' H' aP;refine aJ fun G_ g_=>?_;obtain⟨rfl,⟨o,rfl⟩,hb⟩:=aP;apply g_;clear g_ G_;exact⟨rfl,HS fun j hj=>hb j (by lia)⟩
 ·rintro _ H' ⟨rfl,z⟩;rw[z]at q;exact q
theorem vK:aH ["_law_record","_law_word","_law_number","_law_entry"] ["_law_record","_law_word","_law_number"] (aB uX):=eO
theorem Xp{f:Addr}{fd:FuncData}(F:cY K "_law_met" "_law_met" uX f fd):aM P w K mg base aW 1 f fd ["_law_record","_law_word","_law_number"] Ow:=by
 refine F.ok vK (fun vs H Q E h=>?_) (fun cdv A outer s H vs Q E hr h=>?_)
 ·refine aJ fun G_ g_=>?_;obtain⟨pw,b,n,es,rfl,_⟩:=h;apply g_;clear g_ G_;rfl
 refine aJ fun G_ g_=>?_;obtain⟨pw,b,n,es,rfl,⟨wv,wK,hA⟩,q⟩:=h;apply g_;clear g_ G_
 refine⟨_,(zZ (bU PassesOwn.never rfl (yM (pv 0)) (yJ (i:=3) vK.nd rfl (Or.inl rfl))
  (zG (yD (bc (PW.pt (pw_and (zL yG (yB zH (pv 3) zB (fun _ _=>rfl)) (pv 1) (zR _)) (yP (zL yG (yB zH (pv 3) zB (fun _ _=>rfl)) (pv 2) (zR _))))))
  (zG (zO gF))
  zT)))
  (zG (zO gF))),?_⟩
 have lA:=hA.length;refine⟨fun σ' H'=>H'=H/\dH es (Fo b n)=false,?_,?_⟩
 ·refine⟨_,rfl,pw,rfl,⟨_,aQ.of wK⟩,?_⟩;refine fK (K:=K) (a:=pw) (xs:=wv) (fun i σ' H'=>H'=H/\(∃ o:Option V,σ'=[some (.ref pw),some (.str (O1 b)),some (.int (n:Int)),o])/\dH (es.take i) (Fo b n)=false) ⟨rfl,⟨_,rfl⟩,rfl⟩ (fun i σ' H' _ ⟨e,_⟩=>by rw[e];exact aQ.of wK) ?_ ?_
  ·rintro i x σ' H' hx aP;refine aJ fun G_ g_=>?_;obtain⟨rfl,⟨o,rfl⟩,hb⟩:=aP
   have hi:i<es.length:=by
    have:=(lQ.mp hx).1;lia
   have ei:=gq hi;obtain⟨v,hv,a,rfl,ha⟩:=hA.get ei;apply g_;clear g_ G_;rw[hv]at hx;obtain rfl:=jO hx
   have et:es.take (i+1)=es.take i++[es[i]]:=by rw[j8,ei];rfl
   refine aJ fun G_ g_=>?_;obtain⟨s1,x1,r1,er,n1,y1⟩:=Yt es[i] b n;apply g_;clear g_ G_;rw[er]at ha;refine⟨fun c H2=>H2=H'/\c=decide (jJ es[i]=some (Fo b n)),?_,?_⟩
   ·refine⟨_,rfl,a,_,_,V.str s1,rfl,rfl,aK.of ha,yQ (j:=0) (v:=V.str s1) rfl,_,rfl,rfl,_,rfl,fH (fun z=>?_) (fun z=>?_)⟩
    ·refine aJ fun G_ g_=>?_;obtain⟨k,rfl,hk⟩:=y1 z;apply g_;clear g_ G_;refine⟨_,rfl,a,_,_,V.int (k:Int),rfl,rfl,aK.of ha,yQ (j:=1) (v:=V.int (k:Int)) rfl,_,rfl,rfl,_,rfl,rfl,?_⟩
     rw[show decide (V.int (k:Int)=V.int (n:Int))=decide (k=n) from by
      by_cases e:k=n
      ·subst e;simp
      ·rw[decide_eq_false e,decide_eq_false fun z=>e (by cases z;rfl)]]
     by_cases e:k=n
     ·rw[decide_eq_true e,decide_eq_true (hk.mp e)]
     ·rw[decide_eq_false e,decide_eq_false fun h=>e (hk.mpr h)]
    ·exact⟨rfl,(decide_eq_false (n1 z)).symm⟩
   ·rintro c H2 ⟨rfl,rfl⟩;refine fH (fun z=>?_) (fun z=>?_)
    ·have e:dH es (Fo b n)=true:=by
      unfold dH;rw[List.any_eq_true];exact⟨_,je hi,z⟩
     rw[e]at q;exact q
    ·refine⟨rfl,⟨_,rfl⟩,?_⟩;rw[et,qt,hb,z];rfl
  ·rintro σ' H' aP;refine aJ fun G_ g_=>?_;obtain⟨rfl,⟨o,rfl⟩,hb⟩:=aP;apply g_;clear g_ G_;rw[lA,List.take_length]at hb;exact⟨rfl,hb⟩
 ·rintro _ H' ⟨rfl,z⟩;rw[z]at q;exact q
noncomputable def Fv(H:Hp)(v:V)(es:List En)(j:Nat):Prop:=∃(a pw:Addr),v = .ref a/\H a=some (.tup [.int (j:Int),.ref pw])/\wz H pw es
noncomputable def Cells(H:Hp)(ne:Nat)(ms:List (List En×Nat))(N k m:Nat)(xs:List V):Prop:=xs.length=m/\∀ e,e<m->∃ v es j,xs[e]? = some v/\ms[k*ne+e]? = some (es,j)/\j<N/\Fv H v es j
noncomputable def wj(H:Hp)(ne:Nat)(ms:List (List En×Nat))(N m:Nat)(rv:List V):Prop:=rv.length=m/\∀ k,k<m->∃(a:Addr)(xs:List V),rv[k]? = some (.ref a)/\H a=some (.lst xs)/\Cells H ne ms N k ne xs
noncomputable abbrev Tab(H:Hp)(ne:Nat)(ms:List (List En×Nat))(N:Nat)(rv:List V):Prop:=wj H ne ms N N rv
noncomputable def W9:Sp:=fun vs H Q _ => ∃(pp pb pr:Addr)(b:Bool)(n ne N pl j:Nat)(p:List Nat)(bF es':List En)(rv:List V)(ms:List (List En×Nat)),vs=[.ref pp,.ref pb,.int (pl:Int),.ref pr,.str (O1 b),.int (n:Int)]/\H pp=some (.tup (aC p))/\wz H pb bF/\H pr=some (.lst rv)/\Tab H ne ms N rv/\pl<N ∧
 fP ne ms pl bF p=some (j,es')/\Q (.bl (dH es' (Fo b n))) H
noncomputable def Jf:Sp:=fun vs H Q _ => ∃(pb pr:Addr)(b:Bool)(n ne N:Nat)(bF:List En)(rv:List V)(ms:List (List En×Nat)),vs=[.ref pb,.ref pr,.str (O1 b),.int (n:Int)]/\wz H pb bF/\H pr=some (.lst rv)/\Tab H ne ms N rv ∧
 dH bF (Fo b n)=false/\(∀ m∈ms,dH m.1 (Fo b n)=false)/\Q (.bl true) H
noncomputable def PJ:Sp:=fun vs H Q _ => ∃(ps pb pr:Addr)(b:Bool)(ne N:Nat)(sv:List V)(os:List (Option (List Nat)))(bF:List En)(rv:List V)(ms:List (List En×Nat)),vs=[.ref ps,.int (os.length:Int),.ref pb,.int 0,.ref pr,.str (O1 b)]/\H ps=some (.lst sv)/\Al (CP H) sv os/\os.length<=1000/\wz H pb bF/\H pr=some (.lst rv)/\Tab H ne ms N rv/\0<N ∧
 (∀ n,os[n]? = some none->dH bF (Fo b n)=false/\∀ m∈ms,dH m.1 (Fo b n)=false)/\(∀ n p,os[n]? = some (some p)->∃ j es',fP ne ms 0 bF p=some (j,es')/\dH es' (Fo b n)=true)/\Q (.bl true) H
theorem iQ:aH ["_law_way","_law_begin","_law_place_here","_law_runs_here","_law_word","_law_number","_law_record","_law_event"] ["_law_way","_law_begin","_law_place_here","_law_runs_here","_law_word","_law_number"] (aB uY):=eO
theorem Xq{n':Nat}{f g1:Addr}{fd d1:FuncData}(F:cY K "_law_led" "_law_led" uY f fd)
  (oO:Dp P w K mg base aW n' g1 d1 ["_law_record","_law_word","_law_number"] Ow "_law_met")
  (aR:mg "len" = none) (cI:mg "isinstance" = none) (aU:mg "tuple" = none) (Qt:mg "int" = none) (Y8:mg "bool" = none):aM P w K mg base aW (n'+1) f fd ["_law_way","_law_begin","_law_place_here","_law_runs_here","_law_word","_law_number"] W9:=by
 refine F.ok iQ (fun vs H Q E h=>?_) (fun cdv A outer s H vs Q E hr h=>?_)
 ·refine aJ fun G_ g_=>?_;obtain⟨pp,pb,pr,b,n,ne,N,pl,j,p,bF,es',rv,ms,rfl,_⟩:=h;apply g_;clear g_ G_;rfl
 refine aJ fun G_ g_=>?_;obtain⟨pp,pb,pr,b,n,ne,N,pl,j,p,bF,es',rv,ms,rfl,hpp,hpb,hpr,⟨lr,hT⟩,hpl,hw,q⟩:=h;apply g_;clear g_ G_
 refine⟨_,(zE (yD (lB (dY (zS gK rfl cI OJ (zA (pv 0) (zA (qe (v:=.ty "tuple") rfl aU lV rfl) zD)))))
  (zG (zO gF))
  zT)
  (zE (zK (i:=6) iQ.nd rfl (Or.inl rfl) (pv 1))
  (zZ (bU PassesOwn.never rfl (pG (pv 0)) (yJ (i:=7) iQ.nd rfl (Or.inl rfl))
  (zE (yD (bc (PW.pt (pw_or (lB (dY (zS gK rfl cI OJ (zA (pv 7) (zA (qe (v:=.ty "int") rfl Qt PyProof.Rows.boot_int rfl) zD))))) (pw_or (dY (zS gK rfl cI OJ (zA (pv 7) (zA (qe (v:=.ty "bool") rfl Y8 PyProof.Rows.boot_bool rfl) zD)))) (pw_or1 (lB (Q6 QR lR zB (pv 7) (zS zN rfl aR cA (zA (yB yU (pv 3) (pv 2) (fun _ _=>rfl)) zD)))))))))
  (zG (zO gF))
  zT)
  (zE (zK (i:=6) iQ.nd rfl (Or.inl rfl) (yB zH (yB yU (yB yU (pv 3) (pv 2) (fun _ _=>rfl)) (pv 7) (fun _ _=>rfl)) zB (fun _ _=>rfl)))
  (zG (zK (i:=2) iQ.nd rfl (Or.inl rfl) (yB zH (yB yU (yB yU (pv 3) (pv 2) (fun _ _=>rfl)) (pv 7) (fun _ _=>rfl)) zB (fun _ _=>rfl)))))))
  (zG (zO (pC oO hr (zA (pv 6) (zA (pv 4) (zA (pv 5) zD))))))))),?_⟩
 refine⟨_,rfl,_,"tuple",_,true,rfl,.tup hpp,by rfl,_,rfl,qp rfl ⟨_,rfl,?_⟩⟩;refine⟨fun σ' H'=>H'=H/\∃(TF:Addr)(o2 o7:Option V),σ'=[some (.ref pp),some (.ref pb),o2,some (.ref pr),some (.str (O1 b)),some (.int (n:Int)),some (.ref TF),o7]/\wz H TF es',?_,?_⟩
 ·refine⟨_,rfl,pp,rfl,⟨_,aK.of hpp⟩,?_⟩;refine Kp (K:=K) (a:=pp) (xs:=aC p) (fun i σ' H'=>H'=H/\∃(TF:Addr)(Xc:Nat)(es1:List En)(o7:Option V),σ'=[some (.ref pp),some (.ref pb),some (.int (Xc:Int)),some (.ref pr),some (.str (O1 b)),some (.int (n:Int)),some (.ref TF),o7]/\wz H TF es1/\Xc<N/\fP ne ms Xc es1 (p.drop i)=some (j,es'))
   ⟨rfl,pb,pl,bF,_,rfl,hpb,hpl,hw⟩ (fun i σ' H' _ ⟨e,_⟩=>by rw[e];exact aK.of hpp) ?_ ?_
  ·rintro i x σ' H' hx aP;refine aJ fun G_ g_=>?_;obtain⟨rfl,TF,Xc,es1,o7,rfl,qC1,hpl',hw'⟩:=aP;apply g_;clear g_ G_
   have hi:i<p.length:=by
    have:=(lQ.mp hx).1;rw[zU]at this;exact this
   obtain rfl:x = .int ((p[i]:Nat):Int):=by
    unfold aC at hx;rw[gf,gq hi]at hx;exact (jO hx).symm
   rw[List.drop_eq_getElem_cons hi]at hw';generalize p[i]=e at hw' hx ⊢;refine aJ fun G_ g_=>?_;obtain⟨he,es2,j2,hm,hw2⟩:=rY hw';obtain⟨a,xs,ha,hxs,lx,hc⟩:=hT Xc hpl';obtain⟨v,es3,j3,hv,hm3,hj3,a3,pw,rfl,h3,Yh⟩:=hc e he;apply g_;clear g_ G_;rw[hm]at hm3
   cases hm3
   refine⟨fun c H2=>H2=H'/\c=false,?_,?_⟩
   ·refine⟨_,rfl,_,"int",_,true,rfl,.int _,YL K,_,rfl,qp rfl ⟨_,rfl,_,"bool",_,false,rfl,.int _,YM K,_,rfl,qp rfl ⟨_,rfl,0,(e:Int),(ne:Int),rfl,rfl,?_,_,rfl,rfl,?_⟩⟩⟩
    ·exact⟨_,rfl,_,rfl,bY (aQ.of hpr) (yQ ha) ⟨a,xs,rfl,.inl (aQ.of hxs),by rw[lx],rfl⟩⟩
    ·show (!(decide ((0:Int)<=(e:Int))&&decide ((e:Int)<(ne:Int))))=false;rw[decide_eq_true (show (0:Int)<=(e:Int) by lia),decide_eq_true (show (e:Int)<(ne:Int) by lia)];rfl
   ·rintro c H2 ⟨rfl,rfl⟩;refine qp rfl ?_;refine⟨_,rfl,_,rfl,bY (aQ.of hpr) (yQ ha) ⟨_,rfl,bY (aQ.of hxs) (yQ hv) ⟨a3,_,_,V.ref pw,rfl,rfl,aK.of h3,rfl,?_⟩⟩⟩;refine⟨_,rfl,_,rfl,bY (aQ.of hpr) (yQ ha) ⟨_,rfl,bY (aQ.of hxs) (yQ hv) ⟨a3,_,_,V.int (j2:Int),rfl,rfl,aK.of h3,rfl,?_⟩⟩⟩;exact⟨rfl,pw,j2,es2,_,rfl,Yh,hj3,hw2⟩
  ·rintro σ' H' aP;refine aJ fun G_ g_=>?_;obtain⟨rfl,TF,Xc,es1,o7,rfl,qC1,hpl',hw'⟩:=aP;apply g_;clear g_ G_;rw[zU,List.drop_length]at hw'
   cases hw'
   exact⟨rfl,TF,_,o7,rfl,qC1⟩
 ·rintro _ H' aP;refine aJ fun G_ g_=>?_;obtain⟨rfl,TF,o2,o7,rfl,hb'⟩:=aP;apply g_;clear g_ G_;exact⟨_,rfl,_,rfl,_,rfl,TF,b,n,es',rfl,hb',q⟩
theorem kZ:aH ["_law_begin","_law_runs_here","_law_word","_law_number","_law_row","_law_run"] ["_law_begin","_law_runs_here","_law_word","_law_number"] (aB nR):=eO
theorem QT{n':Nat}{f g1:Addr}{fd d1:FuncData}(F:cY K "_law_unmet" "_law_unmet" nR f fd)
  (oO:Dp P w K mg base aW n' g1 d1 ["_law_record","_law_word","_law_number"] Ow "_law_met"):aM P w K mg base aW (n'+1) f fd ["_law_begin","_law_runs_here","_law_word","_law_number"] Jf:=by
 refine F.ok kZ (fun vs H Q E h=>?_) (fun cdv A outer s H vs Q E hr h=>?_)
 ·refine aJ fun G_ g_=>?_;obtain⟨pb,pr,b,n,ne,N,bF,rv,ms,rfl,_⟩:=h;apply g_;clear g_ G_;rfl
 refine aJ fun G_ g_=>?_;obtain⟨pb,pr,b,n,ne,N,bF,rv,ms,rfl,hpb,hpr,⟨lr,hT⟩,h0,hm,q⟩:=h;apply g_;clear g_ G_
 refine⟨_,(zE (yD (dY (pC oO hr (zA (pv 0) (zA (pv 2) (zA (pv 3) zD)))))
  (zG (zO gF))
  zT)
  (zZ (bU PassesOwn.never rfl (yM (pv 1)) (yJ (i:=4) kZ.nd rfl (Or.inl rfl))
  (zG (bU PassesOwn.never rfl (yM (pv 4)) (yJ (i:=5) kZ.nd rfl (Or.inl rfl))
  (zG (yD (dY (pC oO hr (zA (yB zH (pv 5) zB (fun _ _=>rfl)) (zA (pv 2) (zA (pv 3) zD)))))
  (zG (zO gF))
  zT)))))
  (zG (zO gF)))),?_⟩
 refine⟨_,rfl,_,rfl,_,rfl,pb,b,n,bF,rfl,hpb,_,rfl,qp h0 ?_⟩;refine⟨fun σ' H'=>H'=H,?_,?_⟩
 ·refine⟨_,rfl,pr,rfl,⟨_,aQ.of hpr⟩,?_⟩;refine fK (K:=K) (a:=pr) (xs:=rv) (fun i σ' H'=>H'=H/\∃ o4 o5:Option V,σ'=[some (.ref pb),some (.ref pr),some (.str (O1 b)),some (.int (n:Int)),o4,o5]) ⟨rfl,_,_,rfl⟩ (fun i σ' H' _ ⟨e,_⟩=>by rw[e];exact aQ.of hpr) ?_ (fun σ' H' z=>z.1);rintro i x σ' H' hx aP;refine aJ fun G_ g_=>?_;obtain⟨rfl,o4,o5,rfl⟩:=aP
  have hi:i<N:=by
   have:=(lQ.mp hx).1;lia
  obtain⟨a,xs,ha,hxs,lx,hc⟩:=hT i hi;apply g_;clear g_ G_;rw[ha]at hx;obtain rfl:=jO hx;refine⟨_,rfl,a,rfl,⟨_,aQ.of hxs⟩,?_⟩;refine fK (K:=K) (a:=a) (xs:=xs) (fun i σ2 H2=>H2=H'/\∃ o5:Option V,σ2=[some (.ref pb),some (.ref pr),some (.str (O1 b)),some (.int (n:Int)),some (.ref a),o5]) ⟨rfl,_,rfl⟩ (fun i σ' H' _ ⟨e,_⟩=>by rw[e];exact aQ.of hxs) ?_ (fun σ' H' ⟨z,o5,y⟩=>⟨z,_,o5,y⟩);rintro e x σ2 H2 hx aP;refine aJ fun G_ g_=>?_;obtain⟨rfl,o5,rfl⟩:=aP
  have he:e<ne:=by
   have:=(lQ.mp hx).1;lia
  obtain⟨v,es3,j3,hv,hm3,hj3,a3,pw,rfl,h3,Yh⟩:=hc e he;apply g_;clear g_ G_;rw[hv]at hx;obtain rfl:=jO hx;have hn:=hm _ (Gf hm3);exact⟨_,rfl,a3,_,_,V.ref pw,rfl,rfl,aK.of h3,rfl,_,rfl,_,rfl,pw,b,n,es3,rfl,Yh,_,rfl,qp hn ⟨rfl,_,rfl⟩⟩
 ·rintro _ H' rfl;exact q
theorem tY:aH ["_law_some","_law_many","_law_begin","_law_place_here","_law_runs_here","_law_word","_law_number"] ["_law_some","_law_many","_law_begin","_law_place_here","_law_runs_here","_law_word"] (aB qL):=eO
theorem V7{n':Nat}{f g1 g2:Addr}{fd d1 d2:FuncData}(F:cY K "_law_good" "_law_good" qL f fd)
  (Nr:Dp P w K mg base aW n' g1 d1 ["_law_way","_law_begin","_law_place_here","_law_runs_here","_law_word","_law_number"] W9 "_law_led")
  (Fz:Dp P w K mg base aW n' g2 d2 ["_law_begin","_law_runs_here","_law_word","_law_number"] Jf "_law_unmet")
  (aR:mg "len" = none) (aY:mg "range" = none) (cI:mg "isinstance" = none) (ie:mg "list" = none):aM P w K mg base aW (n'+1) f fd ["_law_some","_law_many","_law_begin","_law_place_here","_law_runs_here","_law_word"] PJ:=by
 refine F.ok tY (fun vs H Q E h=>?_) (fun cdv A outer s H vs Q E hr h=>?_)
 ·refine aJ fun G_ g_=>?_;obtain⟨ps,pb,pr,b,ne,N,sv,os,bF,rv,ms,rfl,_⟩:=h;apply g_;clear g_ G_;rfl
 refine aJ fun G_ g_=>?_;obtain⟨ps,pb,pr,b,ne,N,sv,os,bF,rv,ms,rfl,hps,hA,lo,hpb,hpr,hT,N0,hn,hs,q⟩:=h;apply g_;clear g_ G_
 refine⟨_,(zE (yD (bc (PW.pt (pw_or (lB (dY (zS gK rfl cI OJ (zA (pv 0) (zA (qe (v:=.ty "list") rfl ie PyProof.Rows.boot_list rfl) zD))))) (pw_or1 (zL ym (zS zN rfl aR cA (zA (pv 0) zD)) (pv 1) (zR _))))))
  (zG (zO gF))
  zT)
  (zZ (bU PassesOwn.never rfl (bT rfl aY (zA (pv 1) zD)) (yJ (i:=6) tY.nd rfl (Or.inl rfl))
  (zG (yD (zL jU (yB yU (pv 0) (pv 6) (fun _ _=>rfl)) bf (zR _))
  (zG (yD (lB (dY (pC Fz hr (zA (pv 2) (zA (pv 4) (zA (pv 5) (zA (pv 6) zD)))))))
  (zG (zO gF))
  zT))
  (zG (yD (lB (dY (pC Nr hr (zA (yB yU (pv 0) (pv 6) (fun _ _=>rfl)) (zA (pv 2) (zA (pv 3) (zA (pv 4) (zA (pv 5) (zA (pv 6) zD)))))))))
  (zG (zO gF))
  zT)))))
  (zG (zO gF)))),?_⟩
 have lA:=hA.length;refine⟨fun c H2=>H2=H/\c=false,?_,?_⟩
 ·refine⟨_,rfl,_,"list",_,true,rfl,.lst hps,by rfl,_,rfl,qp rfl ⟨_,rfl,iZ rfl (.inl (aQ.of hps)) ⟨_,rfl,rfl,_,rfl,rfl,?_⟩⟩⟩;rw[lA];simp
 rintro c H2 ⟨rfl,rfl⟩;refine qp rfl ?_;refine⟨fun σ' H'=>H'=H2,?_,?_⟩
 ·refine⟨_,rfl,_,rfl,by lia,by lia,?_⟩;refine cT (lo:=0) (fun i σ' H'=>H'=H2/\∃ o6:Option V,σ'=[some (.ref ps),some (.int (os.length:Int)),some (.ref pb),some (.int 0),some (.ref pr),some (.str (O1 b)),o6]) ⟨rfl,_,rfl⟩ ?_ (fun σ' H' z=>z.1);rintro i σ' H' hi aP;refine aJ fun G_ g_=>?_;obtain⟨rfl,o6,rfl⟩:=aP
  have hi:i<os.length:=by lia
  have ei:=gq hi;obtain⟨v,hv,ho⟩:=hA.get ei;apply g_;clear g_ G_
  have hat:uQ sv (0+(i:Int))=some v:=by rw[Int.zero_add];exact yQ hv
  cases hoi:os[i] with
  | none=>
   rw[hoi]at ho ei;obtain rfl:v = .non:=ho;obtain⟨z1,z2⟩:=hn i ei;refine⟨_,rfl,_,rfl,bY (aQ.of hps) hat ⟨rfl,_,rfl,O5 rfl ?_⟩⟩;exact⟨_,rfl,_,rfl,_,rfl,_,rfl,pb,pr,b,i,ne,N,bF,rv,ms,(by rw[Int.zero_add];rfl),hpb,hpr,hT,z1,z2,_,rfl,qp rfl ⟨rfl,_,rfl⟩⟩
  | some p=>
   rw[hoi]at ho ei;refine aJ fun G_ g_=>?_;obtain⟨a,rfl,ha⟩:=ho;obtain⟨j,es',z1,z2⟩:=hs i p ei;apply g_;clear g_ G_;refine⟨_,rfl,_,rfl,bY (aQ.of hps) hat ⟨rfl,_,rfl,qp rfl ?_⟩⟩;refine⟨_,rfl,_,rfl,bY (aQ.of hps) hat ⟨_,rfl,_,rfl,_,rfl,_,rfl,_,rfl,a,pb,pr,b,i,ne,N,0,j,p,bF,es',rv,ms,(by rw[Int.zero_add];rfl),ha,hpb,hpr,hT,N0,z1,_,rfl,qp (by rw[z2];rfl) ⟨rfl,_,rfl⟩⟩⟩
 ·rintro _ H' rfl;exact q
theorem Kw(H:Hp)(p:Addr):aG (del H p) H:=fun b o e=>by
 by_cases z:b=p
 ·subst z;rw[cQ]at e;cases e
 ·rw[bB z]at e;exact e
theorem Rt(H:Hp)(p:Addr)(o:HO):del (upd H p o) p=del H p:=funext fun b=>by
 by_cases z:b=p
 ·subst z;rw[cQ,cQ]
 ·rw[bB z,bB z,zQ z]
theorem wz.mono{H H':Hp}{pw:Addr}{es:List En}(x:wz H pw es)(s:aG H H'):wz H' pw es:=by
 obtain⟨wv,h1,h2⟩:=x;exact⟨wv,s _ _ h1,h2.mono fun _ _ z=>z.mono (aA.of s)⟩
theorem Fv.mono{H H':Hp}{v:V}{es:List En}{j:Nat}(x:Fv H v es j)(s:aG H H'):Fv H' v es j:=by
 obtain⟨a,pw,h1,h2,h3⟩:=x;exact⟨a,pw,h1,s _ _ h2,h3.mono s⟩
theorem Cells.mono{H H':Hp}{ne N k m:Nat}{ms:List (List En×Nat)}{xs:List V}(x:Cells H ne ms N k m xs)(s:aG H H'):Cells H' ne ms N k m xs:=by
 obtain⟨h1,h2⟩:=x;refine⟨h1,fun e he=>?_⟩;obtain⟨v,es,j,a,b,c,d⟩:=h2 e he;exact⟨v,es,j,a,b,c,d.mono s⟩
theorem Cells.snoc{H:Hp}{ne N k m j:Nat}{ms:List (List En×Nat)}{xs:List V}{v:V}{es:List En}(x:Cells H ne ms N k m xs)(h1:ms[k*ne+m]? = some (es,j))(h2:j<N)(h3:Fv H v es j):Cells H ne ms N k (m+1) (xs++[v]):=by
 obtain⟨l,h⟩:=x;refine⟨by rw[dW,l];rfl,fun e he=>?_⟩
 by_cases z:e=m
 ·subst z;exact⟨v,es,j,by rw[Sy (by lia),l,Nat.sub_self];rfl,h1,h2,h3⟩
 ·obtain⟨v',es',j',a,b,c,d⟩:=h e (by lia);exact⟨v',es',j',by rw[Ck (by lia)];exact a,b,c,d⟩
theorem wj.mono{H H':Hp}{ne N m:Nat}{ms:List (List En×Nat)}{rv:List V}(x:wj H ne ms N m rv)(s:aG H H'):wj H' ne ms N m rv:=by
 obtain⟨h1,h2⟩:=x;refine⟨h1,fun k hk=>?_⟩;obtain⟨a,xs,b,c,d⟩:=h2 k hk;exact⟨a,xs,b,s _ _ c,d.mono s⟩
theorem wj.snoc{H:Hp}{ne N m:Nat}{ms:List (List En×Nat)}{rv xs:List V}{a:Addr}(x:wj H ne ms N m rv)(h1:H a=some (.lst xs))(h2:Cells H ne ms N m ne xs):wj H ne ms N (m+1) (rv++[.ref a]):=by
 obtain⟨l,h⟩:=x;refine⟨by rw[dW,l];rfl,fun k hk=>?_⟩
 by_cases z:k=m
 ·subst z;exact⟨a,xs,by rw[Sy (by lia),l,Nat.sub_self];rfl,h1,h2⟩
 ·obtain⟨a',xs',b,c,d⟩:=h k (by lia);exact⟨a',xs',by rw[Ck (by lia)];exact b,c,d⟩
noncomputable def Oq(n:Nat):Sp:=fun vs H Q _ => ∃(pc as:Addr)(c:dC)(bs:List (Int×Int))(ne N:Nat)(s0:S4)(fs:Fs)(ms:List (List En×Nat))(sv:List V),vs=[.ref pc,.ref as]/\uz.Tf H pc c bs ne/\uz.Ah c bs/\3<=n/\ne<=8/\ao c ne s0 (N*ne) fs ms/\fs.length=N/\N<=300/\gZ c fs/\H as=some (.lst sv)/\Al (JF H) sv (fs.map (·.1)) ∧
 ∀(pr:Addr)(rv:List V)(H':Hp),H' pr=some (.lst rv)->Tab H' ne ms N rv->aG H H'->Q (.ref pr) H'
theorem cZ:aH ["_law_chart_here","_law_stands","_law_runs_here","_law_stand","_law_row","_law_event","_law_found","_law_place_here"] ["_law_chart_here","_law_stands"] (aB qJ):=eO
theorem Uz{n m':Nat}{f g1 g2:Addr}{fd d1 d2:FuncData}(F:cY K "_law_runs" "_law_runs" qJ f fd)
  (rK:Dp P w K mg base aW m' g1 d1 ["chart","stand","event"] (uV n) "after")
  (nH:Dp P w K mg base aW m' g2 d2 ["_law_stands","_law_stand"] Ar "_law_place")
  (aR:mg "len" = none) (aY:mg "range" = none):aM P w K mg base aW (m'+1) f fd ["_law_chart_here","_law_stands"] (Oq n):=by
 refine F.ok cZ (fun vs H Q E h=>?_) (fun cdv A outer s H vs Q E hr h=>?_)
 ·refine aJ fun G_ g_=>?_;obtain⟨pc,as,c,bs,ne,N,s0,fs,ms,sv,rfl,_⟩:=h;apply g_;clear g_ G_;rfl
 refine aJ fun G_ g_=>?_;obtain⟨pc,as,c,bs,ne,N,s0,fs,ms,sv,rfl,hX,ok,n3,VM,FR,fl,N300,JB,has,hA,q⟩:=h;apply g_;clear g_ G_
 refine⟨_,(zE (zK (i:=2) cZ.nd rfl (Or.inl rfl) (yK zD))
  (zZ (bU PassesOwn.never rfl (yM (pv 1)) (yJ (i:=3) cZ.nd rfl (Or.inl rfl))
  (zE (zK (i:=4) cZ.nd rfl (Or.inl rfl) (yK zD))
  (zZ (bU PassesOwn.never rfl (bT rfl aY (zA (zS zN rfl aR cA (zA (yB zH (pv 0) zB (fun _ _=>rfl)) zD)) zD)) (yJ (i:=5) cZ.nd rfl (Or.inl rfl))
  (zE (zK (i:=6) cZ.nd rfl (Or.inl rfl) (pC rK hr (zA (pv 0) (zA (pv 3) (zA (pv 5) zD)))))
  (zE (zK (i:=7) cZ.nd rfl (Or.inl rfl) (pC nH hr (zA (pv 1) (zA (yB zH (pv 6) zB (fun _ _=>rfl)) zD))))
  (zE (yD (zL jU (pv 7) bf (zR _))
  (zG (zO bf))
  zT)
  (zG (yI (dJ j7 pY pX yH (pv 4) (zA (zW (zA (pv 7) (zA (yB zH (pv 6) zB (fun _ _=>rfl)) zD))) zD))))))))
  (zG (yI (dJ j7 pY pX yH (pv 2) (zA (pv 4) zD)))))))
  (zG (zO (pv 2))))),?_⟩
 have lA:=hA.length;rw[bZ,fl]at lA;refine aJ fun G_ g_=>?_;obtain⟨pb,pn,t0,pd0,bv,nv,T9,dv0,h1,h2,h3,h4,h5,h6,h7,h8,h9,h10⟩:=id hX;apply g_;clear g_ G_;have hC5:∀ {Hi:Hp},aG H Hi->rN Hi pc c:=fun z=>(hX.ch ok).mono (aA.of z);have alc:All c (Jw c) n:=⟨ok.ok,wide ok.ok,fun d hd=>⟨(ok.g d hd).1,Nat.le_trans (ok.g d hd).2 n3⟩⟩
 have T4:c.tn<=20:=by have:=ok.t4;lia
 refine⟨zI (by decide),fun pr hpr=>?_⟩;have s1:=zF hpr (.lst []);have i1:upd H pr (.lst []) pr=some (.lst []):=zC;generalize upd H pr (.lst [])=H1 at s1 i1 ⊢;refine⟨fun σ' H'=>∃(rv:List V)(o3 o4 o5 o6 o7:Option V),σ'=[some (.ref pc),some (.ref as),some (.ref pr),o3,o4,o5,o6,o7]/\aG H H'/\H' pr=some (.lst rv)/\wj (del H' pr) ne ms N N rv,?_,?_⟩
 ·refine⟨_,rfl,as,rfl,⟨_,aQ.of (s1 _ _ has)⟩,?_⟩;refine fK (K:=K) (a:=as) (xs:=sv) (fun i σ' H'=>∃(rv:List V)(o3 o4 o5 o6 o7:Option V),σ'=[some (.ref pc),some (.ref as),some (.ref pr),o3,o4,o5,o6,o7]/\aG H H'/\H' pr=some (.lst rv)/\wj (del H' pr) ne ms N i rv)
   ⟨[],_,_,_,_,_,rfl,s1,i1,rfl,fun k hk=>absurd hk (Nat.not_lt_zero _)⟩ ?_ ?_ ?_
  ·rintro i σ' H' _ aP;refine aJ fun G_ g_=>?_;obtain⟨rv,_,_,_,_,_,_,sH,_⟩:=aP;apply g_;clear g_ G_;exact aQ.of (sH _ _ has)
  ·rintro i x σ' Hi hx aP;refine aJ fun G_ g_=>?_;obtain⟨rv,o3,o4,o5,o6,o7,rfl,si,Bp,hT⟩:=aP;have VR:=hT.1
   have hi:i<fs.length:=by
    have:=(lQ.mp hx).1;lia
   obtain⟨⟨sr,dM⟩,Ij⟩:∃ y,fs[i]? = some y:=⟨_,gq hi⟩;obtain⟨v,hv,ps,rfl,hS⟩:=hA.get (k:=i) (r:=sr) (by rw[gf,Ij];rfl);apply g_;clear g_ G_;rw[hv]at hx;obtain rfl:=jO hx;have uM:=JB _ (Gf Ij);have YJ:=Bs FR _ (Gf Ij);simp only at uM YJ;refine⟨zI (by decide),fun q' hq=>?_⟩;have s2:=zF hq (.lst []);have i2:upd Hi q' (.lst []) q'=some (.lst []):=zC
   have TJ:q'≠pr:=fun z=>by rw[z,Bp]at hq;cases hq
   have d2:aG (del Hi pr) (del (del (upd Hi q' (.lst [])) pr) q'):=fun b o e=>by
    have z1:b≠pr:=fun z=>by rw[z,cQ]at e;cases e
    rw[bB z1]at e;have z2:b≠q':=zM e hq;rw[bB z2,bB z1,zQ z2];exact e
   have nq:H q'=none:=si.free hq;generalize upd Hi q' (.lst [])=H2 at s2 i2 d2 ⊢;refine⟨fun σ' H'=>∃(xs:List V)(o5 o6 o7:Option V),σ'=[some (.ref pc),some (.ref as),some (.ref pr),some (.ref ps),some (.ref q'),o5,o6,o7]/\aG H H'/\H' pr=some (.lst rv)/\H' q'=some (.lst xs)/\wj (del (del H' pr) q') ne ms N i rv/\Cells (del (del H' pr) q') ne ms N i ne xs,?_,?_⟩
   ·have XR:=si.trans s2;refine⟨_,rfl,aF (aK.of (XR _ _ h1)) rfl (iZ rfl (.inr (aK.of (XR _ _ h4))) ⟨_,rfl,?_⟩)⟩;rw[h5];refine⟨by lia,by lia,?_⟩;refine cT (lo:=0) (n:=ne) (fun e σ' H'=>∃(xs:List V)(o5 o6 o7:Option V),σ'=[some (.ref pc),some (.ref as),some (.ref pr),some (.ref ps),some (.ref q'),o5,o6,o7]/\aG H H'/\H' pr=some (.lst rv)/\H' q'=some (.lst xs)/\wj (del (del H' pr) q') ne ms N i rv/\Cells (del (del H' pr) q') ne ms N i e xs)
     ⟨[],_,_,_,rfl,XR,s2 _ _ Bp,i2,hT.mono d2,rfl,fun k hk=>absurd hk (Nat.not_lt_zero _)⟩ ?_ ?_
    ·rintro e σ' H' he aP;refine aJ fun G_ g_=>?_;obtain⟨xs,p5,p6,p7,rfl,sH,uP,Zd,hT',hC'⟩:=aP;have lxs:=hC'.1
     have hcell:i*ne+e<N*ne:=by
      have:(i+1)*ne<=N*ne:=Nat.mul_le_mul_right _ (by lia);rw[Nat.add_mul,Nat.one_mul]at this;lia
     obtain⟨UG,p1',es1,s1'',j,g1,g2,g3,g4⟩:=zg FR _ hcell;apply g_;clear g_ G_;rw[show (i*ne+e)/ne=i by rw[Nat.mul_comm,Nat.mul_add_div (by lia),Nat.div_eq_of_lt he,Nat.add_zero],Ij]at g1;rw[show (i*ne+e)%ne=e by rw[Nat.mul_comm,Nat.mul_add_mod,Nat.mod_eq_of_lt he]]at g2
     cases g1
     have jN:=Q0 g4;refine⟨_,rfl,_,rfl,_,rfl,pc,ps,c,(e:Int),sr,(by rw[Int.zero_add];rfl),hC5 sH,alc,hS.mono (aA.of sH),uM.1,uM.2,YJ,T4,fun t ps' pw wv es s' H3 AR j' so' s3 ht hS' wK KJ hW lw=>?_⟩;obtain⟨rfl,rfl⟩:=Lf AR g2;have sH3:=sH.trans s3;refine⟨_,rfl,_,rfl,t,_,_,V.ref ps',rfl,rfl,aK.of ht,rfl,as,ps',sv,fs.map (·.1),s',rfl,sH3 _ _ has,hA.mono fun _ _ z=>z.mono (aA.of sH3),(by rw[bZ];lia),hS',?_⟩;rw[yg,g4,show HW (some j)=V.int (j:Int) from rfl];refine⟨_,rfl,rfl,_,rfl,qp rfl ?_⟩;have hq3:=s3 _ _ Zd;refine⟨_,rfl,.inl ⟨rfl,_,aQ.of hq3⟩,_,rfl,_,rfl,t,_,_,V.ref pw,rfl,rfl,aK.of ht,rfl,zI (by show 2<=1000;decide),fun tp htp=>?_⟩;have s4:=zF htp (.tup [V.int (j:Int),V.ref pw]);have i4:upd H3 tp (.tup [V.int (j:Int),V.ref pw]) tp=some (.tup [V.int (j:Int),V.ref pw]):=zC;generalize upd H3 tp (.tup [V.int (j:Int),V.ref pw])=H4 at s4 i4 ⊢;have O2:=s3.trans s4;have TX:=s4 _ _ hq3;refine⟨q',_,_,rfl,rfl,TX,zV (by lia),xs++[.ref tp],_,_,_,rfl,cM nq (sH.trans O2) _,?_,zC,?_,?_⟩
     ·rw[zQ (Ne.symm TJ)];exact O2 _ _ uP
     ·have dd:aG (del (del H' pr) q') (del (del (upd H4 q' (.lst (xs++[.ref tp]))) pr) q'):=fun b o eo=>by
       have z2:b≠q':=fun z=>by rw[z,cQ]at eo;cases eo
       rw[bB z2]at eo
       have z1:b≠pr:=fun z=>by rw[z,cQ]at eo;cases eo
       rw[bB z1]at eo;rw[bB z2,bB z1,zQ z2];exact O2 _ _ eo
      exact hT'.mono dd
     ·have dd:aG (del (del H' pr) q') (del (del (upd H4 q' (.lst (xs++[.ref tp]))) pr) q'):=fun b o eo=>by
       have z2:b≠q':=fun z=>by rw[z,cQ]at eo;cases eo
       rw[bB z2]at eo
       have z1:b≠pr:=fun z=>by rw[z,cQ]at eo;cases eo
       rw[bB z1]at eo;rw[bB z2,bB z1,zQ z2];exact O2 _ _ eo
      have kt:aA H4 (del (del (upd H4 q' (.lst (xs++[.ref tp]))) pr) q'):=fun b ys eo=>by
       have z2:b≠q':=bz eo TX nofun;have z1:b≠pr:=bz eo (O2 _ _ uP) nofun;rw[bB z2,bB z1,zQ z2];exact eo
      refine (hC'.mono dd).snoc g3 (by lia) ⟨tp,pw,rfl,kt _ _ i4,wv,?_,hW.mono fun _ _ z=>(z.mono (aA.of s4)).mono kt⟩
      have z2:pw≠q':=fun z=>by rw[z,Zd]at KJ;cases KJ
      have z1:pw≠pr:=fun z=>by rw[z,uP]at KJ;cases KJ
      rw[bB z2,bB z1,zQ z2];exact s4 _ _ wK
    ·rintro σ' H' aP;refine aJ fun G_ g_=>?_;obtain⟨xs,p5,p6,p7,rfl,sH,uP,Zd,hT',hC'⟩:=aP;apply g_;clear g_ G_;exact⟨xs,_,_,_,rfl,sH,uP,Zd,hT',hC'⟩
   ·rintro _ H' aP;refine aJ fun G_ g_=>?_;obtain⟨xs,p5,p6,p7,rfl,sH,uP,Zd,hT',hC'⟩:=aP;apply g_;clear g_ G_;have sub:aG (del (del H' pr) q') (del H' pr):=Kw _ _;refine⟨_,rfl,.inl ⟨rfl,_,aQ.of uP⟩,_,rfl,pr,_,_,rfl,rfl,uP,zV (by lia),rv++[.ref q'],_,_,_,_,_,rfl,cM hpr sH _,zC,?_⟩;rw[Rt];exact (hT'.mono sub).snoc (by rw[bB TJ];exact Zd) (hC'.mono sub)
  ·rintro σ' H' aP;refine aJ fun G_ g_=>?_;obtain⟨rv,p3,p4,p5,p6,p7,rfl,sH,uP,hT'⟩:=aP;apply g_;clear g_ G_;rw[lA]at hT';exact⟨rv,_,_,_,_,_,rfl,sH,uP,hT'⟩
 ·rintro _ H' aP;refine aJ fun G_ g_=>?_;obtain⟨rv,p3,p4,p5,p6,p7,rfl,sH,uP,hT'⟩:=aP;apply g_;clear g_ G_;exact⟨_,rfl,q pr rv H' uP (hT'.mono (Kw _ _)) sH⟩
theorem fold_zero{c:dC}{ne:Nat}{s0:S4}{i:Nat}{fs:Fs}{ms:List (List En×Nat)}(h:ao c ne s0 i fs ms):∃ tl,fs=(nl s0,[])::tl:=by
 induction h with
 | nil=>exact⟨[],rfl⟩
 | @cell i fs ms s s' p es h h0 h1 h2 ih=>
  obtain⟨tl,rfl⟩:=ih;obtain⟨more,em,_⟩:=jy ((nl s0,[])::tl) (nl s') (p++[i%ne]);exact⟨tl++more,by rw[em];rfl⟩
theorem Py{c:dC}{ne:Nat}{s0:S4}{i:Nat}{fs:Fs}{ms:List (List En×Nat)}(h:ao c ne s0 i fs ms):rowOf fs s0=some 0:=by
 obtain⟨tl,rfl⟩:=fold_zero h;unfold rowOf;rw[List.findIdx?_cons,VV,decide_eq_true rfl];rfl
theorem get_map{α:Type}{k:Nat}{g:Nat->α}{n:Nat}{x:α}(h:((List.range k).map g)[n]? = some x):g n=x:=by
 have hn:=(lQ.mp h).1;rw[bZ,List.length_range]at hn;rw[gf,qE5 hn]at h;exact jO h
noncomputable def Oz(K:bO):Sp:=fun vs H Q _ => ∃(a:Addr)(ns:List Int),vs=[.ref a]/\aQ K H a (ns.map V.int)/\ns.length<=63/\∀ H',Q (.bl true) H'
theorem gR:aH ["_law_script","_law_chart_here","_law_most","_law_found","_law_table","_law_begin","_law_place_here","_law_runs_here"] ["_law_script"] (aB tZ):=eO
theorem Xr{m':Nat}{f g1 g2 g3 g4 g5 g6 g7 g8:Addr}{fd d1 d2 d3 d4 d5 d6 d7 d8:FuncData}(F:cY K "law" "law" tZ f fd)
  (GF:Dp P w K mg base aW m' g1 d1 ["_law_script"] (uz.Jo K) "_law_chart")
  (aL:Dp P w K mg base aW m' g2 d2 ["_law_script","_law_k","_law_salt"] (kJ K) "_law_mixed")
  (CV:Dp P w K mg base (ou P w) m' g3 d3 ["chart","most"] (Oo CT 3) "seen")
  (Cg:Dp P w K mg base (ou P w) m' g4 d4 ["chart","most"] (PK CT 3) "flat")
  (rJ:Dp P w K mg base aW m' g5 d5 ["chart"] (uU 3) "begun")
  (nH:Dp P w K mg base aW m' g6 d6 ["_law_stands","_law_stand"] Ar "_law_place")
  (JV:Dp P w K mg base aW m' g7 d7 ["_law_chart_here","_law_stands"] (Oq 3) "_law_runs")
  (xH:Dp P w K mg base aW m' g8 d8 ["_law_some","_law_many","_law_begin","_law_place_here","_law_runs_here","_law_word"] PJ "_law_good")
  (oE:mg "TooWide" = some (.ref CT)) (xg:PySem.W.exmOne K (.ref CT) (.ref CT)=some true) (aR:mg "len" = none) (cI:mg "isinstance" = none) (aU:mg "tuple" = none):aM P w K mg base aW (m'+1) f fd ["_law_script"] (Oz K):=by
 refine F.ok gR (fun vs H Q E h=>?_) (fun cdv A outer s H vs Q E hr h=>?_)
 ·refine aJ fun G_ g_=>?_;obtain⟨a,ns,rfl,_⟩:=h;apply g_;clear g_ G_;rfl
 refine aJ fun G_ g_=>?_;obtain⟨a,ns,rfl,hS,h63,q⟩:=h;apply g_;clear g_ G_
 refine⟨_,(zE (zK (i:=1) gR.nd rfl (Or.inl rfl) (pC GF hr (zA (pv 0) zD)))
  (zE (zK (i:=2) gR.nd rfl (Or.inl rfl) (yC yF zB (yC zY (pC aL hr (zA (pv 0) (zA zB (zA zB zD)))) zB)))
  (zE (zK (i:=3) gR.nd rfl (Or.inl rfl) bf)
  (zE (zK (i:=4) gR.nd rfl (Or.inl rfl) bf)
  (zE (K8 (K7 (i:=3) gR.nd rfl (Or.inl rfl) (Dv CV.G hr rfl CV.m CV.k CV.b .nil (zA (pv 1) (zA (pv 2) zD)))) rfl oE
   (fun _=>(zG (zK (i:=3) gR.nd rfl (Or.inl rfl) bf)))
  zT)
  (zE (K8 (K7 (i:=4) gR.nd rfl (Or.inl rfl) (Dv Cg.G hr rfl Cg.m Cg.k Cg.b .nil (zA (pv 1) (zA (pv 2) zD)))) rfl oE
   (fun _=>(zG (zK (i:=4) gR.nd rfl (Or.inl rfl) bf)))
  zT)
  (zE (yD (bc (PW.pt (pw_or (zL jU (pv 3) bf (zR _)) (pw_or1 (zL jU (pv 4) bf (zR _))))))
  (zG (zO (pH (QH (nj jU (pv 3) bf (zR _)) (HX (nj jU (pv 4) bf (zR _)))))))
  zT)
  (zE (yD (bc (PW.pt (pw_or (lB (dY (zS gK rfl cI OJ (zA (pv 3) (zA (qe (v:=.ty "tuple") rfl aU lV rfl) zD))))) (pw_or1 (zL ym (zS zN rfl aR cA (zA (pv 3) zD)) zB (zR _))))))
  (zG (zO gF))
  zT)
  (zE (zK (i:=5) gR.nd rfl (Or.inl rfl) (pC rJ hr (zA (pv 1) zD)))
  (zE (zK (i:=6) gR.nd rfl (Or.inl rfl) (pC nH hr (zA (yB zH (pv 4) zB (fun _ _=>rfl)) (zA (yB zH (pv 5) zB (fun _ _=>rfl)) zD))))
  (zE (zK (i:=7) gR.nd rfl (Or.inl rfl) (pC JV hr (zA (pv 1) (zA (yB zH (pv 4) zB (fun _ _=>rfl)) zD))))
  (zE (yD (bc (PW.pt (pw_or (zL jU (pv 6) bf (zR _)) (pw_or1 (zL jU (pv 7) bf (zR _))))))
  (zG (zO gF))
  zT)
  (zE (yD (lB (dY (pC xH hr (zA (yB zH (pv 3) zB (fun _ _=>rfl)) (zA (zS zN rfl aR cA (zA (yB zH (pv 1) zB (fun _ _=>rfl)) zD)) (zA (yB zH (pv 5) zB (fun _ _=>rfl)) (zA (pv 6) (zA (pv 7) (zA zP zD)))))))))
  (zG (zO gF))
  zT)
  (zG (zO (pC xH hr (zA (yB zH (pv 3) zB (fun _ _=>rfl)) (zA (zS zN rfl aR cA (zA (yB zH (pv 1) zB (fun _ _=>rfl)) zD)) (zA (yB zH (pv 5) zB (fun _ _=>rfl)) (zA (pv 6) (zA (pv 7) (zA zP zD)))))))))))))))))))))),?_⟩
 refine⟨_,rfl,a,ns,rfl,hS,h63,fun pc c bs ne H1 s1 hX ok VM=>?_⟩;refine⟨_,rfl,a,ns,5,74,rfl,s1.seq hS,h63,⟨by decide,by decide⟩,⟨by decide,by decide⟩,fun y y0 y1=>(aq ⟨(by show (0:Int)<8;decide),_,_,rfl,rfl,?_⟩)⟩;refine aJ fun G_ g_=>?_;obtain⟨m,em,m1,m8⟩:∃ m:Nat,1+y%8=(m:Int)/\1<=m/\m<=8:=⟨(1+y%8).toNat,by lia,by lia,by lia⟩;obtain⟨pb,pn,t0,pd0,bv,nv,T9,dv0,h1,h2,h3,h4,h5,h6,h7,h8,h9,h10⟩:=id hX;apply g_;clear g_ G_;have YC:=h7.length;have YG:=h10.length;have r40:=ok.ok.r40;have d60:=ok.ok.d63;refine⟨_,rfl,_,rfl,pc,m,c,bs,ne,(by show [V.ref pc,V.int (1+y%8)]++[]=_;rw[em];rfl),hX,ok,bM _,m1,by lia,VM,fun bF s0 BR Za=>⟨fun N fs ms t pr pd rv dv H2 FR fl Nm JB ht hpr hpd hR hD s2 Hs Qk nprpd=>?_,fun i fs ms FR fl dx pl pv H2 st z1 z2 z3 z4 z5=>⟨xg,?_⟩⟩⟩
 ·refine⟨_,rfl,_,rfl,pc,m,c,bs,ne,(by show [V.ref pc,V.int (1+y%8)]++[]=_;rw[em];rfl),hX.mono (aA.of s2),ok,bM _,m1,by lia,VM,fun qGF s0' BR' qF4=>⟨fun N' fs' wC t' tw' pr' as' rv' sv' H3 FR' Cq Nm' aok' ht' htw' hpr' hRw' Ik qG9 s3 _ _ _=>?_,fun i fs' wC FR' Cq=>?_⟩⟩
  ·refine aJ fun G_ g_=>?_;obtain⟨rfl,rfl⟩:=uw BR BR';obtain⟨rfl,rfl,rfl⟩:=Pk FR fl FR' Cq;apply g_;clear g_ G_;refine⟨fun c' H'=>H3=H'/\c'=false,⟨_,rfl,rfl,_,rfl,qp rfl ⟨_,rfl,rfl,_,rfl,rfl,rfl⟩⟩,?_⟩;rintro c' _ ⟨rfl,rfl⟩;refine qp rfl ?_;have ht3:=s3 _ _ ht;refine⟨fun c' H'=>H3=H'/\c'=false,⟨_,rfl,_,"tuple",_,true,rfl,.tup ht3,by rfl,_,rfl,qp rfl ⟨_,rfl,iZ rfl (.inr (aK.of ht3)) ⟨rfl,_,rfl,rfl,rfl⟩⟩⟩,?_⟩;rintro c' _ ⟨rfl,rfl⟩;refine qp rfl ?_;have uf:=s2.trans s3;refine⟨_,rfl,pc,c,bs,ne,rfl,hX.mono (aA.of uf),ok,bM _,fun tb psb pwb wvb esb sb H4 BRb jb sob s4 htb hSb qFE npwb hAb leb=>?_⟩;obtain⟨rfl,rfl⟩:=uw BR BRb;have Zc:=s4 _ _ ht';have qC6:=s4 _ _ Ik;have qC7:=qG9.mono fun _ _ z=>z.mono (aA.of s4);refine⟨_,rfl,t',_,_,V.ref as',rfl,rfl,aK.of Zc,rfl,_,rfl,tb,_,_,V.ref psb,rfl,rfl,aK.of htb,rfl,as',psb,sv',fs.map (·.1),s0,rfl,qC6,qC7,(by rw[bZ];lia),hSb,?_⟩;rw[yg,Py FR,show HW (some 0)=V.int 0 from rfl];have Di:=uf.trans s4;refine⟨_,rfl,_,rfl,t',_,_,V.ref as',rfl,rfl,aK.of Zc,rfl,pc,as',c,bs,ne,N,s0,fs,ms,sv',rfl,hX.mono (aA.of Di),ok,bM _,VM,FR,fl,by lia,JB,qC6,qC7,fun px xv H5 hpx hT s5=>?_⟩;refine⟨fun c' H'=>H5=H'/\c'=false,⟨_,rfl,rfl,_,rfl,qp rfl ⟨_,rfl,rfl,_,rfl,rfl,rfl⟩⟩,?_⟩;rintro c' _ ⟨rfl,rfl⟩;refine qp rfl ?_;have XQ:=s3.trans (s4.trans s5);have xR:=s2.trans XQ;have rcb:wz H5 pwb bF:=⟨wvb,s5 _ _ qFE,hAb.mono fun _ _ z=>z.mono (aA.of s5)⟩
   have N0:0<N:=by
    obtain⟨tl,e⟩:=fold_zero FR;rw[e,dz]at fl;lia
   have lo1:((List.range c.rs.length).map fun r=>bK (iD bF ne fs ms) (2*r)).length=c.rs.length:=by rw[bZ,List.length_range]
   have lo2:((List.range c.ds.length).map fun r=>bK (iD bF ne fs ms) (2*r+1)).length=c.ds.length:=by rw[bZ,List.length_range]
   refine⟨_,rfl,t,_,_,V.ref pr,rfl,rfl,aK.of (XQ _ _ ht),rfl,_,rfl,pc,_,_,_,rfl,rfl,aK.of (xR _ _ h1),rfl,t0,_,rfl,.inr (aK.of (xR _ _ h6)),_,rfl,tb,_,_,V.ref pwb,rfl,rfl,aK.of (s5 _ _ htb),rfl,_,rfl,_,rfl,
    pr,pwb,px,false,ne,N,rv,_,bF,xv,ms,(by rw[lo1,YC];rfl),XQ _ _ hpr,hR.mono (fun _ _ z=>z.mono (aA.of XQ)),(by rw[lo1];lia),rcb,hpx,hT,N0,(fun n hn=>wV (fs:=fs) (ne:=ne) (x:=2*n) (get_map (g:=fun r=>bK (iD bF ne fs ms) (2*r)) hn)),(fun n p hn=>wU (x:=2*n) FR (get_map (g:=fun r=>bK (iD bF ne fs ms) (2*r)) hn)),_,rfl,qp rfl ?_⟩
   exact⟨_,rfl,t,_,_,V.ref pd,rfl,rfl,aK.of (XQ _ _ ht),rfl,_,rfl,pc,_,_,_,rfl,rfl,aK.of (xR _ _ h1),rfl,pd0,_,rfl,.inr (aK.of (xR _ _ h9)),_,rfl,tb,_,_,V.ref pwb,rfl,rfl,aK.of (s5 _ _ htb),rfl,_,rfl,_,rfl,
    pd,pwb,px,true,ne,N,dv,_,bF,xv,ms,(by rw[lo2,YG];rfl),XQ _ _ hpd,hD.mono (fun _ _ z=>z.mono (aA.of XQ)),(by rw[lo2];lia),rcb,hpx,hT,N0,(fun n hn=>wV (fs:=fs) (ne:=ne) (x:=2*n+1) (get_map (g:=fun r=>bK (iD bF ne fs ms) (2*r+1)) hn)),(fun n p hn=>wU (x:=2*n+1) FR (get_map (g:=fun r=>bK (iD bF ne fs ms) (2*r+1)) hn)),q _⟩
  ·obtain⟨rfl,rfl⟩:=uw BR BR';exact (Eh FR fl Nm FR' Cq).elim
 ·have s2:aG H1 H2:=fun b o e=>st.rest b o e (by simp);refine⟨_,rfl,_,rfl,pc,m,c,bs,ne,(by show [V.ref pc,V.int (1+y%8)]++[]=_;rw[em];rfl),hX.mono (aA.of s2),ok,bM _,m1,by lia,VM,fun qGF s0' BR' qF4=>⟨fun N' fs' wC t' tw' pr' as' rv' sv' H3 FR' Cq Nm'=>?_,fun i' fs' wC FR' Cq dx' Xc WL H3 st' w1 w2 w3 w4 w5=>⟨xg,?_⟩⟩⟩
  ·obtain⟨rfl,rfl⟩:=uw BR BR';exact (Eh FR' Cq Nm' FR fl).elim
  ·refine⟨fun c' H'=>c'=true,⟨_,rfl,rfl,_,rfl,O5 rfl rfl⟩,?_⟩;rintro c' H4 rfl;refine O5 rfl ?_;refine⟨fun v H'=>v = .bl true,⟨_,rfl,rfl,_,rfl,O5 rfl ⟨_,rfl,rfl,rfl⟩⟩,?_⟩;rintro v H5 rfl;exact q _
end
end Aa
namespace L2
open PySem
theorem aM.cx{P:Program}{w:World}{K:bO}{mg:Str->Option Value}{base:Heap}{CX:Ge}{k:Nat}{f:Addr}{fd:FuncData}{ps:List Str}{sp:Sp}(F:aM P w K mg base aW k f fd ps sp):aM P w K mg base CX k f fd ps sp:=
 ⟨F.len,fun A outer s H args us vs Q E r e b v h=>codeAny_mono (F.run A outer s H args us vs Q E r e b v h) fun res s' z=>by
  cases res with
  | error e=>exact z.elim
  | ok f=>cases f <;> exact z⟩
end L2
namespace Aa
open PySem L2 pQ rG CN S9 JQ jY Ru
section
variable{P:Program}{w:World}{K:bO}{mg:Str->Option Value}{base:Heap}
theorem MJ{f:Addr}{fd:FuncData}(F:cY K "holds" "holds" mO f fd)(ux:Binds K fd ["guard","opening","boxes"] [])(um:mg "holds" = some (.ref f)):aM P w K mg base aW 3 f fd ["guard","opening","boxes"] (K02.kO 3):=by
 exact K02.zy F ux um 3
theorem MK{f:Addr}{fd:FuncData}(F:cY K "_law_guard" "_law_guard" iI f fd)(rB:Binds K fd ["_law_number","_law_rooms_here","_law_boxes","_law_high"] [])(qj:mg "_law_guard" = some (.ref f)):aM P w K mg base aW 3 f fd ["_law_number","_law_rooms_here","_law_boxes","_law_high"] (uz.kW 3):=by
 exact uz.all_guard F rB qj 3
end
end Aa
namespace Aa
open PySem L2 pQ rG CN S9 JQ Ru
theorem wX(P:Params):pM (KO P) 280 277=true:=by kernel_rfl
theorem Iu(P:Params):Vy (KO P) 280 "ways" := ⟨by kernel_rfl,by kernel_rfl,by kernel_rfl,by kernel_rfl⟩
set_option maxHeartbeats 0 in
theorem law_ok{w:World}{mg:Str->Option Value}{h base:Heap}(X:(KO w.params).In h)(G:h.Ns mainGlobals mg):aM PW w (KO w.params) mg base aW 11 449 Vj ["_law_script"] (Oz (KO w.params)):=by
 have ap {CX:Ge} {k:Nat} {f:Addr} {fd:FuncData} {ps:List Str} {sp:Sp} (h:aM PW w (KO w.params) mg base CX k f fd ps sp):=h;have mo {x:Str} {a:Addr} (h:NS x a):=PySem.W.mg_of X G (h w.params);have mz {x:Str} (h:NZ x):=PySem.W.mg_none_of X G (h w.params);have F1:=u1 w.params;have b1:=F1.binds (ps:=["_law_script","_law_k"]) fun _ _ _ _ _ _=>lG fun _ _=>rfl;have m1:=mo a1;have k1:=F1.kp;have F2:=u2 w.params;have b2:=F2.binds (ps:=["_law_script","_law_k","_law_salt"]) fun _ _ _ _ _ _=>jW fun _ _ _=>rfl;have m2:=mo a2;have k2:=F2.kp;have F3:=u3 w.params;have b3:=F3.binds (ps:=["guard","opening","boxes"]) fun _ _ _ _ _ _=>jW fun _ _ _=>rfl;have m3:=mo a3;have k3:=F3.kp;have F4:=u4 w.params;have b4:=F4.binds (ps:=["chart","stand","event"]) fun _ _ _ _ _ _=>jW fun _ _ _=>rfl;have m4:=mo a4;have k4:=F4.kp;have F5:=u5 w.params;have b5:=F5.binds (ps:=["rooms","room"]) fun _ _ _ _ _ _=>lG fun _ _=>rfl;have m5:=mo a5;have k5:=F5.kp;have F6:=u6 w.params;have b6:=F6.binds (ps:=["rooms","room"]) fun _ _ _ _ _ _=>lG fun _ _=>rfl;have m6:=mo a6;have k6:=F6.kp;have F7:=u7 w.params;have b7:=F7.binds (ps:=["rooms","one","other"]) fun _ _ _ _ _ _=>jW fun _ _ _=>rfl;have m7:=mo a7;have k7:=F7.kp;have F8:=u8 w.params;have b8:=F8.binds (ps:=["rooms","one","other"]) fun _ _ _ _ _ _=>jW fun _ _ _=>rfl;have m8:=mo a8;have k8:=F8.kp;have F9:=u9 w.params;have b9:=F9.binds (ps:=["rooms","room"]) fun _ _ _ _ _ _=>lG fun _ _=>rfl;have m9:=mo a9;have k9:=F9.kp;have F10:=u10 w.params;have b10:=F10.binds (ps:=["rooms","room","goals"]) fun _ _ _ _ _ _=>jW fun _ _ _=>rfl;have m10:=mo a10;have k10:=F10.kp;have F11:=X3 w.params;have b11:=F11.binds (ps:=["rooms","room","goals"]) fun _ _ _ _ _ _=>jW fun _ _ _=>rfl;have m11:=mo a11;have k11:=F11.kp;have F12:=u12 w.params;have b12:=F12.binds (ps:=["rooms","under","goals"]) fun _ _ _ _ _ _=>jW fun _ _ _=>rfl;have m12:=mo a12;have k12:=F12.kp;have F13:=W4 w.params;have b13:=F13.binds (ps:=["rooms","under","opening"]) fun _ _ _ _ _ _=>jW fun _ _ _=>rfl;have m13:=mo a13;have k13:=F13.kp;have F14:=u14 w.params;have b14:=F14.binds (ps:=["rooms","told"]) fun _ _ _ _ _ _=>lG fun _ _=>rfl;have m14:=mo a14;have k14:=F14.kp;have F15:=u15 w.params;have b15:=F15.binds (ps:=["rooms","opening","room"]) fun _ _ _ _ _ _=>jW fun _ _ _=>rfl;have m15:=mo a15;have k15:=F15.kp;have F16:=u16 w.params;have b16:=F16.binds (ps:=["rooms","opening","left","kept"]) fun _ _ _ _ _ _=>wG fun _ _ _ _=>rfl;have m16:=mo a16;have k16:=F16.kp;have F17:=u17 w.params;have b17:=F17.binds (ps:=["chart","room","others"]) fun _ _ _ _ _ _=>jW fun _ _ _=>rfl;have m17:=mo a17;have k17:=F17.kp;have F18:=u18 w.params;have b18:=F18.binds (ps:=["chart","stand","event"]) fun _ _ _ _ _ _=>jW fun _ _ _=>rfl;have m18:=mo a18;have k18:=F18.kp;have F19:=u19 w.params;have b19:=F19.binds (ps:=["deed","boxes","sizes"]) fun _ _ _ _ _ _=>jW fun _ _ _=>rfl;have m19:=mo a19;have k19:=F19.kp;have F20:=u20 w.params;have b20:=F20.binds (ps:=["deed","boxes","letters"]) fun _ _ _ _ _ _=>jW fun _ _ _=>rfl;have m20:=mo a20;have k20:=F20.kp;have F21:=u21 w.params;have b21:=F21.binds (ps:=["deeds","boxes","sizes","letters"]) fun _ _ _ _ _ _=>wG fun _ _ _ _=>rfl;have m21:=mo a21;have k21:=F21.kp;have F22:=u22 w.params;have b22:=F22.binds (ps:=["chart"]) fun _ _ _ _ _ _=>Eu fun _=>rfl;have m22:=mo a22;have k22:=F22.kp;have F23:=u23 w.params;have b23:=F23.binds (ps:=["record"]) fun _ _ _ _ _ _=>Eu fun _=>rfl;have m23:=mo a23;have k23:=F23.kp;have F24:=u24 w.params;have b24:=F24.binds (ps:=["rooms","entered"]) fun _ _ _ _ _ _=>lG fun _ _=>rfl;have m24:=mo a24;have k24:=F24.kp;have F25:=u25 w.params;have b25:=F25.binds (ps:=["rooms","left"]) fun _ _ _ _ _ _=>lG fun _ _=>rfl;have m25:=mo a25;have k25:=F25.kp;have F26:=u26 w.params;have b26:=F26.binds (ps:=["steps","boxes","sizes","letters"]) fun _ _ _ _ _ _=>wG fun _ _ _ _=>rfl;have m26:=mo a26;have k26:=F26.kp;have F27:=u27 w.params;have b27:=F27.binds (ps:=["chart","kept","door"]) fun _ _ _ _ _ _=>jW fun _ _ _=>rfl;have m27:=mo a27;have k27:=F27.kp;have F28:=u28 w.params;have b28:=F28.binds (ps:=["chart","stand","door","letters"]) fun _ _ _ _ _ _=>wG fun _ _ _ _=>rfl;have m28:=mo a28;have k28:=F28.kp;have F29:=u29 w.params;have b29:=F29.binds (ps:=["chart","stand","event","letters"]) fun _ _ _ _ _ _=>wG fun _ _ _ _=>rfl;have m29:=mo a29;have k29:=F29.kp;have F30:=u30 w.params;have b30:=F30.binds (ps:=["chart","stand","record","letters"]) fun _ _ _ _ _ _=>wG fun _ _ _ _=>rfl;have m30:=mo a30;have k30:=F30.kp;have F31:=u31 w.params;have b31:=F31.binds (ps:=["chart"]) fun _ _ _ _ _ _=>Eu fun _=>rfl;have m31:=mo a31;have R3:=F31.kp;have F32:=u32 w.params;have b32:=F32.binds (ps:=["chart","stand","event"]) fun _ _ _ _ _ _=>jW fun _ _ _=>rfl;have m32:=mo a32;have k32:=F32.kp;have F33:=u33 w.params;have b33:=F33.binds (ps:=["record"]) fun _ _ _ _ _ _=>Eu fun _=>rfl;have m33:=mo a33;have k33:=F33.kp;have F34:=u34 w.params;have b34:=F34.binds (ps:=["rooms","opening"]) fun _ _ _ _ _ _=>lG fun _ _=>rfl;have m34:=mo a34;have k34:=F34.kp;have F35:=Wz w.params;have b35:=F35.binds (ps:=["chart","finds","row","event"]) fun _ _ _ _ _ _=>wG fun _ _ _ _=>rfl;have m35:=mo a35;have k35:=F35.kp;have F36:=u36 w.params;have b36:=F36.binds (ps:=["chart","most"]) fun _ _ _ _ _ _=>lG fun _ _=>rfl;have m36:=mo a36;have k36:=F36.kp;have F37:=u37 w.params;have b37:=F37.binds (ps:=["met","record","path"]) fun _ _ _ _ _ _=>jW fun _ _ _=>rfl;have m37:=mo a37;have k37:=F37.kp;have F38:=u38 w.params;have b38:=F38.binds (ps:=["chart","most"]) fun _ _ _ _ _ _=>lG fun _ _=>rfl;have m38:=mo a38;have k38:=F38.kp;have F39:=u39 w.params;have b39:=F39.binds (ps:=["_law_k","_law_number"]) fun _ _ _ _ _ _=>lG fun _ _=>rfl;have m39:=mo a39;have k39:=F39.kp;have F40:=u40 w.params;have b40:=F40.binds (ps:=["_law_number","_law_sizes","_law_events"]) fun _ _ _ _ _ _=>jW fun _ _ _=>rfl;have m40:=mo a40;have k40:=F40.kp;have F41:=u41 w.params;have b41:=F41.binds (ps:=["_law_script","_law_k","_law_salt","_law_sizes","_law_events"]) fun _ _ _ _ _ _=>YF fun _ _ _ _ _=>rfl;have m41:=mo a41;have k41:=F41.kp;have F42:=u42 w.params;have b42:=F42.binds (ps:=["_law_number","_law_rooms_here","_law_boxes","_law_high"]) fun _ _ _ _ _ _=>wG fun _ _ _ _=>rfl;have m42:=mo a42;have k42:=F42.kp;have F43:=u43 w.params;have b43:=F43.binds (ps:=["_law_script","_law_many"]) fun _ _ _ _ _ _=>lG fun _ _=>rfl;have m43:=mo a43;have k43:=F43.kp;have F44:=u44 w.params;have b44:=F44.binds (ps:=["_law_script","_law_depths_here","_law_sizes","_law_events"]) fun _ _ _ _ _ _=>wG fun _ _ _ _=>rfl;have m44:=mo a44;have k44:=F44.kp;have F45:=u45 w.params;have b45:=F45.binds (ps:=["_law_script","_law_many","_law_rooms_here","_law_sizes","_law_events"]) fun _ _ _ _ _ _=>YF fun _ _ _ _ _=>rfl;have m45:=mo a45;have k45:=F45.kp;have F46:=u46 w.params;have b46:=F46.binds (ps:=["_law_script"]) fun _ _ _ _ _ _=>Eu fun _=>rfl;have m46:=mo a46;have k46:=F46.kp;have F47:=u47 w.params;have b47:=F47.binds (ps:=["_law_stands","_law_stand"]) fun _ _ _ _ _ _=>lG fun _ _=>rfl;have m47:=mo a47;have k47:=F47.kp;have F48:=u48 w.params;have b48:=F48.binds (ps:=["_law_chart_here","_law_stands"]) fun _ _ _ _ _ _=>lG fun _ _=>rfl;have m48:=mo a48;have k48:=F48.kp;have F49:=u49 w.params;have b49:=F49.binds (ps:=["_law_record","_law_word","_law_number"]) fun _ _ _ _ _ _=>jW fun _ _ _=>rfl;have m49:=mo a49;have k49:=F49.kp;have F50:=u50 w.params;have b50:=F50.binds (ps:=["_law_way","_law_begin","_law_place_here","_law_runs_here","_law_word","_law_number"]) fun _ _ _ _ _ _=>qBH fun _ _ _ _ _ _=>rfl;have m50:=mo a50;have k50:=F50.kp;have F51:=u51 w.params;have b51:=F51.binds (ps:=["_law_begin","_law_runs_here","_law_word","_law_number"]) fun _ _ _ _ _ _=>wG fun _ _ _ _=>rfl;have m51:=mo a51;have k51:=F51.kp;have F52:=u52 w.params;have b52:=F52.binds (ps:=["_law_some","_law_many","_law_begin","_law_place_here","_law_runs_here","_law_word"]) fun _ _ _ _ _ _=>qBH fun _ _ _ _ _ _=>rfl;have m52:=mo a52;have k52:=F52.kp;have F53:=u53 w.params;have Wv:=Zz w.params;have Wk:=Wv.binds (ps:=["self","most"]) fun _ _ _ _ _ _=>lG fun _ _=>rfl;have qDY:Mk (KO w.params) 109 85:=⟨(qBC w.params).1,qDV w.params,qBP w.params,(qBC w.params).2⟩;have Sq:=Zy w.params;have qDP:=Sq.binds (ps:=["self","event"]) fun _ _ _ _ _ _=>lG fun _ _=>rfl;have qBG:Meth (KO w.params) 109 "add" 92:=⟨qDU w.params,qBO w.params,Sq.kp⟩;have Sh:=Zx w.params;have qDO:=Sh.binds (ps:=["self"]) fun _ _ _ _ _ _=>Eu fun _=>rfl;have qBF:Meth (KO w.params) 109 "taken" 99:=⟨qDT w.params,qBN w.params,Sh.kp⟩;have Sg:=Zw w.params;have qDN:=Sg.binds (ps:=["self"]) fun _ _ _ _ _ _=>Eu fun _=>rfl;have qBE:Meth (KO w.params) 109 "waiting" 106:=⟨qDS w.params,qBM w.params,Sg.kp⟩;have Wu:=Zu w.params;have Wj:=Wu.binds (ps:=["self","most"]) fun _ _ _ _ _ _=>lG fun _ _=>rfl;have qDX:Mk (KO w.params) 306 296:=⟨(qBB w.params).1,qDR w.params,qBL w.params,(qBB w.params).2⟩;have SX:=Zt w.params;have S5:=SX.binds (ps:=["self","stand","path"]) fun _ _ _ _ _ _=>jW fun _ _ _=>rfl;have Qu:Meth (KO w.params) 306 "row_of" 303:=⟨qDQ w.params,qBK w.params,SX.kp⟩;have Wt:=Zr w.params;have qDM:=Wt.binds (ps:=["self","ways"]) fun _ _ _ _ _ _=>lG fun _ _=>rfl;have Bx:=Bx w.params;have mC0:=mo aC0;have oA:=oA w.params;have dq:=dq w.params;have J9:=J9 w.params;have mC1:=mo aC1;have nu:=nu w.params;have cj:=cj w.params;have fY:=fY w.params;have iG:=iG w.params;have mC2:=mo aC2;have mC3:=mo aC3;have dN:=mz z1;have qBA:=mz z2;have qB9:=mz z3;have cz:=mz z4;have sZ:=mz z5;have cH:=mz z6;have lE:=mz z7;have WW:=mz z8;have Y4:=mz z9;have mV:=mz Zq;have WX:=mz Zo;have Em:=mz z12;have n_str:=mz z13;have Ws:=ap (jY.V5 Wv Bx oA dq);have qE4:=ap (jY.Xw Sq Bx oA dq dN);have qE3:=ap (jY.QW Sh Bx dq dN);have qE2:=ap (jY.HY Sg Bx dq sZ);have qE1:=ap (Uw Wt (wX w.params) (Iu w.params) mC3 (fE1 w.params) (fE2 w.params) (fE3 w.params) sZ);have Wr:=ap (Xu Wu J9 nu cj fY iG);have SM:=ap (Xo SX J9 nu cj fY iG (wX w.params) (Iv w.params) mC2 qE1.cx qDM dN);have G1:=ap (VF F1 dN);have G2:=ap (Qa F2 G1 b1 k1 m1 dN qBA);have G3:=ap (MJ F3 b3 m3);have G4:=ap (GP.Ho F4 ⟨G3,b3,k3,m3⟩ Em);have G5:=ap (jY.Xv F5 cz dN);have G6:=ap (jY.MF F6 cz);have G7:=ap (jY.V3 F7 ⟨G5,b5,k5,m5⟩);have G8:=ap (jY.V6 F8 ⟨(G6.mono (show 1<=2 by decide)),b6,k6,m6⟩ ⟨G7,b7,k7,m7⟩);have G9:=ap (jY.V4 F9 ⟨G5,b5,k5,m5⟩ cz);have G10:=ap (jY.xW F10 ⟨G5,b5,k5,m5⟩ WX);have G11:=ap (jY.Hh F11 ⟨G9,b9,k9,m9⟩ ⟨G10,b10,k10,m10⟩);have G12:=ap (jY.Be F12 ⟨G11,b11,k11,m11⟩ dN mV);have G13:=ap (jY.xV F13 ⟨G5,b5,k5,m5⟩ mV);have G14:=ap (jY.xU F14 cH);have G15:=ap (jY.Hk F15 ⟨G13,b13,k13,m13⟩ ⟨(G14.mono (show 1<=2 by decide)),b14,k14,m14⟩ mV cH);have G16:=ap (jY.Hl F16 ⟨G15,b15,k15,m15⟩ sZ cH);have G17:=ap (GP.Hg F17 ⟨G7,b7,k7,m7⟩ WX);have G18:=ap (GP.MP F18 ⟨G4,b4,k4,m4⟩ ⟨(G17.mono (show 3<=4 by decide)),b17,k17,m17⟩ mV);have G19:=ap (jY.Hm F19);have G20:=ap (jY.Eb F20 Bx qBG qE4 qDP);have G21:=ap (jY.V9 F21 ⟨(G19.mono (show 1<=2 by decide)),b19,k19,m19⟩ ⟨G20,b20,k20,m20⟩);have G22:=ap (Ru.Ea F22 cH);have G23:=ap (Ru.xT F23);have G24:=ap (Ru.EY F24);have G25:=ap (Ru.Bd F25);have G26:=ap (Ru.Hf F26 ⟨G21,b21,k21,m21⟩);have G27:=ap (Ru.Ec F27 dN sZ);have G28:=ap (Ru.M9 F28 ⟨(G8.mono (show 3<=4 by decide)),b8,k8,m8⟩ ⟨(G13.mono (show 2<=4 by decide)),b13,k13,m13⟩ ⟨G16,b16,k16,m16⟩ ⟨G12,b12,k12,m12⟩ ⟨(G27.mono (show 1<=4 by decide)),b27,k27,m27⟩ ⟨(G25.mono (show 1<=4 by decide)),b25,k25,m25⟩ ⟨(G24.mono (show 1<=4 by decide)),b24,k24,m24⟩ ⟨G26,b26,k26,m26⟩ ⟨(G22.mono (show 1<=4 by decide)),b22,k22,m22⟩ cH mV);have G29:=ap (Ru.Uv F29 ⟨G18,b18,k18,m18⟩ ⟨G28,b28,k28,m28⟩ ⟨(G23.mono (show 1<=5 by decide)),b23,k23,m23⟩);have G30:=ap (Ru.M8 F30 Bx qBF (qE3.mono (show 1<=6 by decide)) qDO qBE (qE2.mono (show 1<=6 by decide)) qDN ⟨G29,b29,k29,m29⟩ dN sZ);have G31:=ap (Ru.Qi F31 qDY (Ws.mono (show 1<=6 by decide)) Wk mC0 ⟨(G12.mono (show 4<=7 by decide)),b12,k12,m12⟩ ⟨(G26.mono (show 4<=7 by decide)),b26,k26,m26⟩ ⟨(G24.mono (show 1<=7 by decide)),b24,k24,m24⟩ ⟨(G22.mono (show 1<=7 by decide)),b22,k22,m22⟩ ⟨G30,b30,k30,m30⟩ cH dN);have G32:=ap (Ru.Qj F32 Bx qDY (Ws.mono (show 1<=6 by decide)) Wk mC0 ⟨(G29.mono (show 6<=7 by decide)),b29,k29,m29⟩ ⟨G30,b30,k30,m30⟩);have G33:=ap (Ru.Uy F33);have G34:=ap (Qc F34 cH);have G35:=ap (V2 F35 J9 cj fY Qu ⟨G32,b32,k32,m32⟩ ⟨(G33.mono (show 1<=8 by decide)),b33,k33,m33⟩ (SM.mono (show 3<=8 by decide)) S5 cH);have G36:=ap (V8 F36 J9 cj Qu qDX (Wr.mono (show 1<=8 by decide)) Wj mC1 ⟨(G31.mono (show 8<=9 by decide)),b31,R3,m31⟩ ⟨(G33.mono (show 1<=9 by decide)),b33,k33,m33⟩ (SM.mono (show 3<=9 by decide)) S5 ⟨G35,b35,k35,m35⟩ ⟨(G34.mono (show 1<=9 by decide)),b34,k34,m34⟩ dN cz cH);have G37:=ap (V0 F37);have G38:=ap (Ux F38 J9 cj fY Qu qDX (Wr.mono (show 1<=8 by decide)) Wj mC1 ⟨(G31.mono (show 8<=9 by decide)),b31,R3,m31⟩ ⟨(G32.mono (show 8<=9 by decide)),b32,k32,m32⟩ (SM.mono (show 3<=9 by decide)) S5 ⟨(G37.mono (show 1<=9 by decide)),b37,k37,m37⟩ dN cz);have G39:=ap (uz.V1 F39 dN);have G40:=ap (uz.VD F40 ⟨G39,b39,k39,m39⟩ dN);have G41:=ap (uz.Qg F41 ⟨G2,b2,k2,m2⟩ ⟨G40,b40,k40,m40⟩ cz cH);have G42:=ap (MK F42 b42 m42);have G43:=ap (uz.MN F43 ⟨G2,b2,k2,m2⟩ cz qB9);have G44:=ap (uz.QX F44 ⟨(G2.mono (show 2<=3 by decide)),b2,k2,m2⟩ ⟨(G39.mono (show 1<=3 by decide)),b39,k39,m39⟩ ⟨G41,b41,k41,m41⟩ ⟨(G1.mono (show 1<=3 by decide)),b1,k1,m1⟩ cz dN cH);have G45:=ap (uz.Qf F45 ⟨(G2.mono (show 2<=3 by decide)),b2,k2,m2⟩ ⟨G42,b42,k42,m42⟩ ⟨G41,b41,k41,m41⟩ cz dN cH WW);have G46:=ap (uz.Qh F46 ⟨(G2.mono (show 2<=4 by decide)),b2,k2,m2⟩ ⟨(G1.mono (show 1<=4 by decide)),b1,k1,m1⟩ ⟨(G39.mono (show 1<=4 by decide)),b39,k39,m39⟩ ⟨(G43.mono (show 3<=4 by decide)),b43,k43,m43⟩ ⟨G44,b44,k44,m44⟩ ⟨G45,b45,k45,m45⟩ cz cH);have G47:=ap (QZ F47 dN cz);have G48:=ap (Uz F48 ⟨G32,b32,k32,m32⟩ ⟨(G47.mono (show 1<=8 by decide)),b47,k47,m47⟩ dN cz);have G49:=ap (Xp F49);have G50:=ap (Xq F50 ⟨G49,b49,k49,m49⟩ dN lE cH WW Y4);have G51:=ap (QT F51 ⟨G49,b49,k49,m49⟩);have G52:=ap (V7 F52 ⟨G50,b50,k50,m50⟩ ⟨G51,b51,k51,m51⟩ dN cz lE sZ);exact Xr (m':=10) F53 ⟨(G46.mono (show 5<=10 by decide)),b46,k46,m46⟩ ⟨(G2.mono (show 2<=10 by decide)),b2,k2,m2⟩ ⟨G38,b38,k38,m38⟩ ⟨G36,b36,k36,m36⟩ ⟨(G31.mono (show 8<=10 by decide)),b31,R3,m31⟩ ⟨(G47.mono (show 1<=10 by decide)),b47,k47,m47⟩ ⟨(G48.mono (show 9<=10 by decide)),b48,k48,m48⟩ ⟨(G52.mono (show 3<=10 by decide)),b52,k52,m52⟩ mC2 (Ir w.params) dN lE cH
theorem walk:PySem.W.WalkO QV LS (PySem.W.XL QV []) HK.says PySem.Challenge.rw_nesthall_k50_whole_never_met.row.toRowW J8 [] (fun f vs=>PySem.call f vs):=by
 refine L2.Ti (l:=PySem.Challenge.rw_nesthall_k50_whole_never_met) (n:=63) (k:=11) (x := "_law_script") (K:=KO) (CX:=fun _=>aW) (sp:=fun w=>Oz (KO w.params)) rfl (by decide) rfl ⟨rfl,by decide,by decide⟩ (fun w h Y=>Y) ?_ (fun _ _ a ns hl _ hS=>⟨a,ns,rfl,hS,hl,fun _=>rfl⟩) fun _ _ _ _ _ z=>z;intro w mg fa h KX G hmg;have e:=hmg.symm.trans (PySem.W.mg_of KX G (a53 w.params))
 cases e
 exact⟨Vj,fun s v=>.of_eq rfl,fun base _ _=>law_ok KX G⟩
end Aa
open PySem PySem.W PyProof.Rows
set_option maxRecDepth 100000 in
set_option maxHeartbeats 0 in
theorem PySem.Challenge.cw_nesthall_k50_whole_never_met_holds : PySem.Challenge.rw_nesthall_k50_whole_never_met.Holds := by
 refine holds_law Aa.said fun said=>?_;refine PySem.W.holds_open (r:=PySem.Challenge.rw_nesthall_k50_whole_never_met.row) Aa.left Aa.HK.of Aa.HK.keeps
  (fun s e=>xl_of s (Bool.and_eq_true_iff.mp e).1) XL.keeps Aa.hdef Aa.hthe Aa.hkw
  (fun s e=>recFacts_of (Bool.and_eq_true_iff.mp e).2) rfl said Aa.hok Aa.hbare ?hw Aa.walk
 case hw=>w_witness2
