import PyProof.Rows.All
import PyProof.InstStoreFacts
import PyProof.ExcClass3
import PyProof.ExcInit
import KE.KLam
import KE.KRevIter
import PyProof.EnumMake
import Wide.All
import OpenK.AllK
import Wide.FinOn
import Lean
import PyProof.EqAt
import PyProof.EqKinds
import PyProof.TupleCall
import PySem.Challenge.RW_surestretch_k28_not_made_tight
set_option Elab.async false
set_option linter.all false
set_option maxRecDepth 100000
namespace L2
open PySem PySem.Spec PyProof.Rows
noncomputable abbrev Key:=Sum Int Str
noncomputable def keyIs:Key->Value->Bool
 | .inl k,v=>Value.isInt k v
 | .inr x,v=>Value.isStrOf x v
noncomputable def keyH (w:World):Key->Int
 | .inl k=>hashInt k
 | .inr x=>hashStr w x
theorem keyIs_shape:∀ {k:Key}{v:Value},keyIs k v=true->(∃ i t,k=Sum.inl i/\v=Value.int i t)∨(∃ x t,k=Sum.inr x/\v=Value.str x t)
 | .inl i,v,h=>by
  obtain⟨t,e⟩:=Value.isInt_shape (k:=i) (v:=v) h
  exact .inl ⟨i,t,rfl,e⟩
 | .inr x,v,h=>by
  obtain⟨t,e⟩:=Value.isStrOf_shape (x:=x) (v:=v) h
  exact .inr ⟨x,t,rfl,e⟩
theorem key_ll (a b:Int):decide ((Sum.inl a:Key)=Sum.inl b)=(a == b):=by
 by_cases e:a=b
 ·subst e;simp
 ·have h:¬ (Sum.inl a:Key)=Sum.inl b:=λ q=>e (Sum.inl.inj q)
  rw[decide_eq_false h]
  exact (beq_eq_false_iff_ne.mpr e).symm
theorem key_rr (a b:Str):decide ((Sum.inr a:Key)=Sum.inr b)=decide (a=b):=by
 by_cases e:a=b
 ·subst e;simp
 ·have h:¬ (Sum.inr a:Key)=Sum.inr b:=λ q=>e (Sum.inr.inj q)
  rw[decide_eq_false h,decide_eq_false e]
theorem key_lr (a:Int) (b:Str):decide ((Sum.inl a:Key)=Sum.inr b)=false:=decide_eq_false (λ q=>nomatch q)
theorem key_rl (a:Str) (b:Int):decide ((Sum.inr a:Key)=Sum.inl b)=false:=decide_eq_false (λ q=>nomatch q)
noncomputable def mixKind (prog:Program) (w:World):PySem.KeyKind prog w Key where
 is:=keyIs
 hash:=keyH w
 inj:=λ v a b ha hb=>by
  rcases keyIs_shape ha with ⟨i,t,rfl,rfl⟩ | ⟨x,t,rfl,rfl⟩
  ·rcases keyIs_shape hb with ⟨j,u,rfl,e⟩ | ⟨y,u,rfl,e⟩
   ·injection e with e1 _;rw[e1]
   ·exact nomatch e
  ·rcases keyIs_shape hb with ⟨j,u,rfl,e⟩ | ⟨y,u,rfl,e⟩
   ·exact nomatch e
   ·injection e with e1 _;rw[e1]
 byValue:=λ k v h=>by
  rcases keyIs_shape h with ⟨i,t,rfl,rfl⟩ | ⟨x,t,rfl,rfl⟩<;>rfl
 pyHash:=λ hv h=>by
  rcases keyIs_shape hv with ⟨i,t,rfl,rfl⟩ | ⟨x,t,rfl,rfl⟩
  ·exact wpAny_pyHash_int h
  ·exact wpAny_pyHash_str h
 eqBool:=λ hu hv h=>by
  rcases keyIs_shape hu with ⟨i,t,rfl,rfl⟩ | ⟨x,t,rfl,rfl⟩
  ·rcases keyIs_shape hv with ⟨j,u,rfl,rfl⟩ | ⟨y,u,rfl,rfl⟩
   ·rw[key_ll] at h;exact wpAny_eqBool_int h
   ·rw[key_lr] at h;exact SeqAt.EqAt.int_str i t y u _ _ _ _ h
  ·rcases keyIs_shape hv with ⟨j,u,rfl,rfl⟩ | ⟨y,u,rfl,rfl⟩
   ·rw[key_rl] at h;exact SeqAt.EqAt.str_int x t j u _ _ _ _ h
   ·rw[key_rr] at h;exact wpAny_eqBool_str h
 «strs»:=λ k x t v h=>by
  rcases keyIs_shape h with ⟨i,u,rfl,e⟩ | ⟨y,u,rfl,e⟩
  ·exact nomatch e
  ·injection e with e1 _
   subst e1
   cases v<;>rfl
end L2
namespace L2
open PySem PySem.Spec PyProof.Rows
inductive V where
 | non | bl (b:Bool) | int (i:Int) | str (x:Str) | byt (b:Array UInt8) | flt (b:UInt64) | ref (a:Addr) | ty (n:String)
 deriving DecidableEq
noncomputable def RelV:V->Value->Prop
 | .non,u=>u=Value.none
 | .bl b,u=>u=Value.bool b
 | .int i,u=>∃ t,u=Value.int i t
 | .str x,u=>∃ t,u=Value.str x t
 | .byt b,u=>∃ t,u=Value.bytes b t
 | .flt b,u=>∃ t,u=Value.float b t
 | .ref a,u=>u=Value.ref a
 | .ty n,u=>u=Value.type n
noncomputable abbrev Vals:List V->List Value->Prop:=Paired RelV
theorem Vals.length {xs:List V}{us:List Value} (r:Vals xs us):xs.length=us.length:=Paired.length r
theorem Vals.get:∀ {xs:List V}{us:List Value}{i:Nat}{x:V},Vals xs us->xs[i]? = some x->∃ u,us[i]? = some u/\RelV x u
 | _,_,_,_,.nil,e=>by simp at e
 | _,_,0,_,.cons r _,e=>by simp at e;subst e;exact⟨_,rfl,r⟩
 | _,_,i+1,x,.cons _ t,e=>by
  obtain⟨u,h1,h2⟩:=Vals.get (i:=i) (x:=x) t (by simpa using e)
  exact⟨u,by simpa using h1,h2⟩
theorem Vals.set {x:V}{u:Value} (r:RelV x u):∀ {xs:List V}{us:List Value} (i:Nat),Vals xs us->Vals (xs.set i x) (us.set i u)
 | _,_,_,.nil=>.nil
 | _,_,0,.cons _ t=>.cons r t
 | _,_,i+1,.cons q t=>.cons q (Vals.set r i t)
theorem Vals.append:∀ {xs ys:List V}{us ws:List Value},Vals xs us->Vals ys ws->Vals (xs++ys) (us++ws)
 | _,_,_,_,.nil,s=>s
 | _,_,_,_,.cons r t,s=>.cons r (Vals.append t s)
theorem Vals.take:∀ {xs:List V}{us:List Value} (n:Nat),Vals xs us->Vals (xs.take n) (us.take n)
 | _,_,0,_=>.nil
 | _,_,_+1,.nil=>.nil
 | _,_,n+1,.cons r t=>.cons r (Vals.take n t)
theorem Vals.drop:∀ {xs:List V}{us:List Value} (n:Nat),Vals xs us->Vals (xs.drop n) (us.drop n)
 | _,_,0,r=>r
 | _,_,_+1,.nil=>.nil
 | _,_,n+1,.cons _ t=>Vals.drop n t
noncomputable def RelO:Option V->Option Value->Prop
 | some v,some u=>RelV v u
 | none,none=>True
 | _,_=>False
noncomputable def KV {κ:Type}:List (κ×V)->List (κ×Value)->Prop:=Paired λ (p:κ×V) (q:κ×Value)=>p.1=q.1/\RelV p.2 q.2
noncomputable def kV:Key->V
 | .inl i=>.int i
 | .inr x=>.str x
inductive HO where
 | lst (xs:List V)
 | tup (xs:List V)
 | dK (kvs:List (Key×V)) | dT (kvs:List (List Key×V))
 | set (S:Int->Bool) (n:Nat)
 | ins (C dx:Addr) (fs:List (Str×V))
 | own (x:Addr)
 | xd (fs:List (Str×V))
 | met (f x:Addr)
 | rng (lo hi:Int)
 | frz (o:Obj) (u:HO)
 | tbl (ps:Array Value)
 | ext (φ:Heap->Prop)
noncomputable abbrev Hp:=Addr->Option HO
noncomputable def upd (H:Hp) (a:Addr) (o:HO):Hp:=λ b=>if b=a then some o else H b
theorem upd_same {H:Hp}{a:Addr}{o:HO}:upd H a o a=some o:=by unfold upd;rw[if_pos rfl]
theorem upd_ne {H:Hp}{a b:Addr}{o:HO} (h:b≠a):upd H a o b=H b:=by unfold upd;rw[if_neg h]
theorem ne_of {H:Hp}{a b:Addr}{o u:HO} (h:H a=some o) (h':H b=some u) (d:o≠u):a≠b:=by
 intro e;subst e;rw[h] at h';exact d (Option.some.inj h')
theorem ne_of_none {H:Hp}{a b:Addr}{o:HO} (h:H a=some o) (h':H b=none):a≠b:=by
 intro e;subst e;rw[h] at h';cases h'
section
variable (P:Program) (w:World)
noncomputable def ObjOk (H:Hp) (h:Heap) (a:Addr):HO->Prop
 | .lst xs=>xs.length<=sizeLine/\∃ (its:List Value) (n:Nat),Vals xs its/\h.get? a=some {cls:=.type "list",data:=.seq its.toArray n}
 | .tup xs=>xs.length<=sizeLine/\∃ its:List Value,Vals xs its/\IsTup h a its.toArray
 | .dK kvs=>kvs.length<=sizeLine/\(a == sysModules)=false/\∃ vs,KV kvs vs/\h.DictOf (mixKind P w) a vs
 | .dT kvs=>kvs.length<=sizeLine/\(a == sysModules)=false/\∃ xs:List (List Key×Addr×Value),
   Paired (λ (p:List Key×V) (q:List Key×Addr×Value)=>p.1=q.1/\H q.2.1=some (.tup (p.1.map kV))/\RelV p.2 q.2.2) kvs xs /\
   ∃ o es ep,h.get? a=some o/\o.ExactDict/\o.data=.dict es ep/\es.toList=xs.map (entryOfKey (tupleKind (mixKind P w)))/\(xs.map (·.1)).Nodup
 | .set S n=>h.SetOf (intKind P w) a S n
 | .ins C dx fs=>H dx=some (.own a)/\fs.length<=1000/\dx≠a/\h.get? a=some (PySem.W.instObj C dx) /\
   ∃ mA,h.Ns1 dx mA/\(∀ f,RelO (fs.lookup f) (mA f))/\PySem.Within mA (fs.map (·.1))
 | .own _=>∃ o,h.get? a=some o
 | .xd fs=>∃ mA,h.Ns1 a mA/\∀ f,RelO (fs.lookup f) (mA f)
 | .rng lo hi=>∃ t u v,h.get? a=some {cls:=.type "range",data:=.fields #[.int lo t,.int hi u,.int 1 v]}
 | .frz o u=>h.get? a=some o/\ObjOk H h a u
 | .tbl ps=>h.get? a=some {cls:=.none,data:=.fields ps}
 | .met f x=>h.get? a=some (PySem.W.methodObj (.ref f) (.ref x))
 | .ext φ=>φ h/\(∃ o,h.get? a=some o)/\∀ h1 h2:Heap,φ h1->(∀ o,h1.get? a=some o->h2.get? a=some o)->φ h2
noncomputable def HOk (H:Hp) (h:Heap):Prop:=∀ a o,H a=some o->ObjOk P w H h a o
end
section
variable {P:Program}{w:World}{H H':Hp}{h h':Heap}{a:Addr}{o:HO}
theorem ObjOk.lt (x:ObjOk P w H h a o):a<h.objs.size:=by
 cases o with
 | lst xs=>obtain⟨_,_,_,_,e⟩:=x;exact Heap.lt_size e
 | tup xs=>obtain⟨_,_,_,p⟩:=x;exact p.lt
 | dK kvs=>obtain⟨_,_,_,_,o,_,_,e,_⟩:=x;exact Heap.lt_size e
 | dT kvs=>obtain⟨_,_,_,_,o,_,_,e,_⟩:=x;exact Heap.lt_size e
 | set S n=>obtain⟨o,_,_,_,e,_⟩:=x;exact Heap.lt_size e
 | ins C dx fs=>obtain⟨_,_,_,e,_⟩:=x;exact Heap.lt_size e
 | own y=>obtain⟨_,e⟩:=x;exact Heap.lt_size e
 | xd fs=>obtain⟨_,⟨_,_,_,e,_⟩,_⟩:=x;exact Heap.lt_size e
 | rng lo hi=>obtain⟨_,_,_,e⟩:=x;exact Heap.lt_size e
 | frz ob u=>obtain⟨e,_⟩:=x;exact Heap.lt_size e
 | tbl ps=>exact Heap.lt_size (show h.get? a=some _ from x)
 | met f y=>exact Heap.lt_size (show h.get? a=some _ from x)
 | ext φ=>obtain⟨_,⟨_,e⟩,_⟩:=x;exact Heap.lt_size e
theorem Paired.mapP {α β:Type}{F G:α->β->Prop}:∀ {l₁:List α}{l₂:List β},Paired F l₁ l₂->(∀ a b,F a b->G a b)->Paired G l₁ l₂
 | _,_,.nil,_=>.nil
 | _,_,.cons r t,f=>.cons (f _ _ r) (Paired.mapP t f)
theorem ObjOk.stay (x:ObjOk P w H h a o) (k:∀ b u,(b=a∨H b=some (.own a))->h.get? b=some u->h'.get? b=some u)
  (ho:∀ b,H b=some (.own a)->H' b=some (.own a)) (ht:∀ b xs,H b=some (.tup xs)->H' b=some (.tup xs)):ObjOk P w H' h' a o:=by
 induction o with
 | lst xs=>obtain⟨z,its,n,r,e⟩:=x;exact⟨z,its,n,r,k _ _ (.inl rfl) e⟩
 | tup xs=>obtain⟨z,its,r,ob,e,c⟩:=x;exact⟨z,its,r,ob,k _ _ (.inl rfl) e,c⟩
 | dK kvs=>obtain⟨z,y,vs,r,ob,es,ep,e,c⟩:=x;exact⟨z,y,vs,r,ob,es,ep,k _ _ (.inl rfl) e,c⟩
 | dT kvs =>
  obtain⟨z,y,xs,r,ob,es,ep,e,c⟩:=x
  exact⟨z,y,xs,Paired.mapP r λ p q z=>⟨z.1,ht _ _ z.2.1,z.2.2⟩,ob,es,ep,k _ _ (.inl rfl) e,c⟩
 | set S n=>obtain⟨ob,es,ep,t,e,c⟩:=x;exact⟨ob,es,ep,t,k _ _ (.inl rfl) e,c⟩
 | ins C dx fs =>
  obtain⟨d,z,ne,e,mA,⟨od,es,ep,e2,c⟩,r⟩:=x
  exact⟨ho _ d,z,ne,k _ _ (.inl rfl) e,mA,⟨od,es,ep,k _ _ (.inr d) e2,c⟩,r⟩
 | own y=>obtain⟨ob,e⟩:=x;exact⟨ob,k _ _ (.inl rfl) e⟩
 | xd fs=>obtain⟨mA,⟨od,es,ep,e,c⟩,r⟩:=x;exact⟨mA,⟨od,es,ep,k _ _ (.inl rfl) e,c⟩,r⟩
 | rng lo hi=>obtain⟨t,u,v,e⟩:=x;exact⟨t,u,v,k _ _ (.inl rfl) e⟩
 | frz ob u ih=>obtain⟨e,q⟩:=x;exact⟨k _ _ (.inl rfl) e,ih q⟩
 | tbl ps =>
  have e:h.get? a=some {cls:=.none,data:=.fields ps}:=x
  show h'.get? a=some {cls:=.none,data:=.fields ps}
  exact k a _ (.inl rfl) e
 | met f y =>
  have e:h.get? a=some (PySem.W.methodObj (.ref f) (.ref y)):=x
  show h'.get? a=some (PySem.W.methodObj (.ref f) (.ref y))
  exact k a _ (.inl rfl) e
 | ext φ=>obtain⟨p,⟨o,e⟩,st⟩:=x;exact⟨st _ _ p λ o q=>k _ _ (.inl rfl) q,⟨o,k _ _ (.inl rfl) e⟩,st⟩
theorem HOk.lt (x:HOk P w H h) (e:H a=some o):a<h.objs.size:=(x a o e).lt
theorem HOk.fresh (x:HOk P w H h) (e:h.objs.size<=a):H a=none:=by
 cases q:H a with
 | none=>rfl
 | some u=>exact absurd (Nat.lt_of_lt_of_le (x.lt q) e) (Nat.lt_irrefl _)
theorem HOk.kept (x:HOk P w H h) (k:∀ b u,h.get? b=some u->h'.get? b=some u):HOk P w H h':=λ a o e =>
 (x a o e).stay (λ b u _ q=>k b u q) (λ _ q=>q) λ _ _ q=>q
theorem HOk.laid (x:HOk P w H h) (k:∀ b u,h.get? b=some u->h'.get? b=some u) (hp:h.objs.size<=a) (new:ObjOk P w (upd H a o) h' a o):HOk P w (upd H a o) h':=λ b u e=>by
 have hn:=x.fresh hp
 by_cases hb:b=a
 ·subst hb;rw[upd_same] at e;cases e;exact new
 ·rw[upd_ne hb] at e
  exact (x b u e).stay (λ c v _ q=>k c v q) (λ c q=>by rw[upd_ne (ne_of_none q hn)];exact q) λ c xs q=>by rw[upd_ne (ne_of_none q hn)];exact q
end
noncomputable def Rd (H:Hp) (a:Addr) (u:HO):Prop:=H a=some u∨∃ o,H a=some (.frz o u)
theorem Rd.of {H:Hp}{a:Addr}{u:HO} (h:H a=some u):Rd H a u:=.inl h
theorem Rd.ok {P:Program}{w:World}{H:Hp}{h:Heap}{a:Addr}{u:HO} (r:Rd H a u) (x:HOk P w H h):ObjOk P w H h a u:=by
 rcases r with r | ⟨o,r⟩
 ·exact x a u r
 ·obtain⟨_,q⟩:=x a _ r
  exact q
noncomputable def Mut:Option HO->Prop
 | some (.lst _)=>True
 | some (.dK _)=>True
 | some (.dT _)=>True
 | some (.set _ _)=>True
 | some (.ins _ _ _)=>True
 | some (.ext _)=>True
 | _=>False
section
variable {P:Program}{w:World}{H:Hp}{h h':Heap}{x e:Addr}{o':HO}
theorem HOk.write (ok:HOk P w H h) (mu:Mut (H x)) (he:e=x∨H e=some (.own x)) (k:∀ b u,b≠e->h.get? b=some u->h'.get? b=some u) (heo:∃ u,h'.get? e=some u)
  (new:ObjOk P w (upd H x o') h' x o'):HOk P w (upd H x o') h':=λ b u q=>by
 have nown:∀ c y,H c=some (.own y)->c≠x:=λ c y r z=>by subst z;rw[r] at mu;exact mu
 have ntup:∀ c xs,H c=some (.tup xs)->c≠x:=λ c xs r z=>by subst z;rw[r] at mu;exact mu
 by_cases hb:b=x
 ·subst hb;rw[upd_same] at q;cases q;exact new
 ·rw[upd_ne hb] at q
  by_cases hbe:b=e
  ·have q':H b=some (.own x):=by
    rcases he with z | z
    ·exact absurd (hbe.trans z) hb
    ·rw[hbe];exact z
   rw[q] at q';cases q'
   obtain⟨v,hv⟩:=heo
   exact⟨v,by rw[hbe];exact hv⟩
  ·refine (ok b u q).stay (λ c v hc r=>k c v ?_ r) (λ c r=>by rw[upd_ne (nown c b r)];exact r) λ c xs r=>by rw[upd_ne (ntup c xs r)];exact r
   rcases hc with rfl | hc
   ·exact hbe
   ·rintro rfl
    rcases he with z | z
    ·exact nown c b hc z
    ·rw[hc] at z;cases z;exact hb rfl
end
structure Un (fs ex:List Addr) (H H':Hp) (h h':Heap):Prop where
 keep:∀ b o,h.get? b=some o->H b=none->b ∉ fs->b ∉ ex->h'.get? b=some o
 slot:∀ b o,h.get? b=some o->H b=none->b∈fs->b ∉ ex->∃ sl,h'.get? b=some {o with slots:=sl}
 free:∀ b o,h.get? b=some o->H b=none->b ∉ ex->H' b=none
 there:∀ b o,h.get? b=some o->b ∉ ex->∃ o',h'.get? b=some o'
 tups:∀ b xs,H b=some (.tup xs)->H' b=some (.tup xs)
 frzs:∀ b o u,H b=some (.frz o u)->H' b=some (.frz o u)
 tbls:∀ b ps,H b=some (.tbl ps)->∃ more,H' b=some (.tbl (ps++more))
section
variable {fs fs' ex ex':List Addr}{H H1 H2:Hp}{h h1 h2 h':Heap}{a x e:Addr}{o:HO}
theorem Un.any (u:Un fs ex H H1 h h1) {b:Addr}{ob:Obj} (q:h.get? b=some ob) (n:H b=none) (hx:b ∉ ex):∃ sl,h1.get? b=some {ob with slots:=sl}:=by
 by_cases hb:b∈fs
 ·exact u.slot b ob q n hb hx
 ·exact⟨ob.slots,u.keep b ob q n hb hx⟩
theorem Un.trans (a:Un fs ex H H1 h h1) (b:Un fs ex H1 H2 h1 h2):Un fs ex H H2 h h2 where
 keep:=λ c ob q n hc hx=>b.keep c ob (a.keep c ob q n hc hx) (a.free c ob q n hx) hc hx
 slot:=λ c ob q n hc hx=>by
  obtain⟨sl,e1⟩:=a.slot c ob q n hc hx
  obtain⟨sl',e2⟩:=b.slot c _ e1 (a.free c ob q n hx) hc hx
  exact⟨sl',e2⟩
 free:=λ c ob q n hx=>by
  obtain⟨o',e1⟩:=a.there c ob q hx
  exact b.free c o' e1 (a.free c ob q n hx) hx
 there:=λ c ob q hx=>by
  obtain⟨o',e1⟩:=a.there c ob q hx
  exact b.there c o' e1 hx
 tups:=λ c xs q=>b.tups c xs (a.tups c xs q)
 frzs:=λ c ob xs q=>b.frzs c ob xs (a.frzs c ob xs q)
 tbls:=λ c ps q=>by
  obtain⟨m1,e1⟩:=a.tbls c ps q
  obtain⟨m2,e2⟩:=b.tbls c _ e1
  exact⟨m1++m2,by rw[e2,Array.append_assoc]⟩
theorem Un.kept (k:∀ b u,h.get? b=some u->h'.get? b=some u):Un fs ex H H h h' :=
 ⟨λ b ob q _ _ _=>k b ob q,λ b ob q _ _ _=>⟨ob.slots,k b ob q⟩,λ _ _ _ n _=>n,λ b ob q _=>⟨ob,k b ob q⟩,λ _ _ q=>q,λ _ _ _ q=>q,λ _ ps q=>⟨#[],by rw[q];simp⟩⟩
theorem Un.refl:Un fs ex H H h h:=Un.kept λ _ _ q=>q
theorem Un.laid (k:∀ b u,h.get? b=some u->h'.get? b=some u) (hp:h.objs.size<=a) (hn:H a=none):Un fs ex H (upd H a o) h h' where
 keep:=λ b u q _ _ _=>k b u q
 slot:=λ b u q _ _ _=>⟨u.slots,k b u q⟩
 free:=λ b u q n _=>by rw[upd_ne (Nat.ne_of_lt (Nat.lt_of_lt_of_le (Heap.lt_size q) hp))];exact n
 there:=λ b u q _=>⟨u,k b u q⟩
 tups:=λ b xs q=>by rw[upd_ne (ne_of_none q hn)];exact q
 frzs:=λ b u xs q=>by rw[upd_ne (ne_of_none q hn)];exact q
 tbls:=λ b ps q=>⟨#[],by rw[upd_ne (ne_of_none q hn),q];simp⟩
theorem Un.write (mu:Mut (H x)) (he:e=x∨H e=some (.own x)) (k:∀ b u,b≠e->h.get? b=some u->h'.get? b=some u) (heo:∃ u,h'.get? e=some u):Un fs ex H (upd H x o) h h':=by
 have hx:∀ b,H b=none->b≠x:=λ b n z=>by subst z;rw[n] at mu;exact mu
 have hb:∀ b,H b=none->b≠e:=λ b n z=>by
  subst z
  rcases he with r | r
  ·exact hx b n r
  ·rw[n] at r;cases r
 have hm:∀ b u,H b=some u->¬ Mut (some u)->b≠x:=λ b u q nm z=>by subst z;rw[q] at mu;exact nm mu
 refine⟨λ b u q n _ _=>k b u (hb b n) q,λ b u q n _ _=>⟨u.slots,k b u (hb b n) q⟩,λ b u q n _=>by rw[upd_ne (hx b n)];exact n,λ b u q _=>?_,
  λ b xs q=>by rw[upd_ne (hm b _ q λ z=>z)];exact q,λ b u xs q=>by rw[upd_ne (hm b _ q λ z=>z)];exact q,λ b ps q=>⟨#[],by rw[upd_ne (hm b _ q λ z=>z),q];simp⟩⟩
 by_cases hbe:b=e
 ·subst hbe;exact heo
 ·exact⟨u,k b u hbe q⟩
theorem Un.mono (u:Un fs ex H H1 h h1) (hs:∀ b∈fs,b∈fs') (hx:∀ b∈ex,b∈ex'):Un fs' ex' H H1 h h1 :=
 ⟨λ b ob q n hb he=>u.keep b ob q n (λ z=>hb (hs b z)) λ z=>he (hx b z),λ _ _ q n _ he=>u.any q n λ z=>he (hx _ z),λ b ob q n he=>u.free b ob q n λ z=>he (hx b z),λ b ob q he=>u.there b ob q λ z=>he (hx b z),u.tups,u.frzs,u.tbls⟩
end
noncomputable def trk (h:Heap) (H:Hp):List Addr:=(List.range h.objs.size).filter λ a=>(H a).isSome
noncomputable def hidT (h:Heap) (H:Hp):Heap:=PySem.W.hideAll h (trk h H)
theorem hidT_size (h:Heap) (H:Hp):(hidT h H).objs.size=h.objs.size:=PySem.W.hideAll_size _ _
theorem hidT_get {h:Heap}{H:Hp}{b:Addr}{o:Obj} (e:h.get? b=some o) (n:H b=none):(hidT h H).get? b=some o :=
 PySem.W.hideAll_get _ e λ hm=>by
  have q:(H b).isSome=true:=(List.mem_filter.mp hm).2
  rw[n] at q;simp at q
theorem of_hidT {h:Heap}{H:Hp}{b:Addr}{o:Obj} (e:(hidT h H).get? b=some o):h.get? b=some o/\H b=none:=by
 have e':h.get? b=some o:=PySem.W.of_hideAll (trk h H) e
 refine⟨e',?_⟩
 cases q:H b with
 | none=>rfl
 | some x =>
  have hm:b∈trk h H:=List.mem_filter.mpr ⟨List.mem_range.mpr (Heap.lt_size e'),by simp [q]⟩
  have z:(hidT h H).get? b=none:=PySem.W.hideAll_none (trk h H) hm
  rw[z] at e;cases e
noncomputable def allNews (g h:Heap) (L:Addr):List (Addr×Obj):=(List.range h.objs.size).filterMap λ a=>if a=L∨(g.get? a).isSome=true then none else (h.get? a).map λ o=>(a,o)
noncomputable def rest (g h:Heap) (L d:Addr):List (Addr×Obj):=(allNews g h L).filter λ p=>decide (p.1≠d)
end L2
namespace L2
open PySem PySem.Spec PyProof.Rows
structure Mod (K:PySem.W.Frag) (mg:Str->Option Value) (base:Heap):Prop where
 kin:K.In base
 glob:base.Ns mainGlobals mg
 blt:∃ mb,base.Ns builtinsNs mb/\∀ x:Str,x≠"__name__"->mb x=bootBuiltins x
 nolimit:base.NoLimit
structure Cx where
 prog:Program
 w:World
 K:PySem.W.Frag
 mg:Str->Option Value
 base:Heap
 A:Around
 N:List Str
 s₀:Shared
 H₀:Hp
 env:Env
 outer:List Env
 stack:List Env
 ex:List Addr
 fn:Str->Bool
 calm:Bool
 pn:List (Addr×Obj)
 xe:Value->Shared->Prop
noncomputable def frs (l:List Env):List Addr:=l.filterMap (·.frame)
noncomputable abbrev Cx.fs (X:Cx):List Addr:=frs X.outer
noncomputable def Vis (sc:Scope) (x:Str):Prop:=sc.names.lookup x=some .local∨sc.names.lookup x=some .cell∨sc.names.lookup x=some .free
noncomputable def Loc (sc:Scope) (x:Str):Prop:=sc.names.lookup x=some .local∨sc.names.lookup x=some .cell
noncomputable def Look (env:Env) (h:Heap) (m:Str->Option Value) (x:Str) (u:Value):Prop :=
 (env.kindOf x=some .local/\m x=some u)∨((env.kindOf x=some .cell∨env.kindOf x=some .free)/\∃ c,env.cells.lookup x=some c/\h.IsCell c (some u))
structure Cx.Ok (X:Cx):Prop where
 mod:Mod X.K X.mg X.base
 kind:X.env.scope.kind=.function
 glob:X.env.globals=mainGlobals
 blt:X.env.builtins=builtinsNs
 above:X.s₀.heap.objs.size<=X.env.locals
 inj:∀ x y c,X.env.cells.lookup x=some c->X.env.cells.lookup y=some c->x=y
 has:∀ x,(X.env.kindOf x=some .cell∨X.env.kindOf x=some .free)->∃ c,X.env.cells.lookup x=some c
 cab:∀ x c,X.fn x=true->X.env.cells.lookup x=some c->X.s₀.heap.objs.size<=c
 hd:X.calm=true->X.A.handled=none
 frames:X.A.frames=some X.stack
 stk:X.stack=X.outer∨(X.stack=X.env::X.outer/\X.env.frame=some X.env.locals)
 exf:∀ b∈X.ex,b≠X.env.locals/\∀ x c,X.env.cells.lookup x=some c->c≠b
 bs:∀ b o,X.base.get? b=some o->X.s₀.heap.get? b=some o/\X.H₀ b=none
 bsz:X.base.objs.size<=X.s₀.heap.objs.size
 noex:∀ b o,X.base.get? b=some o->b ∉ X.ex
 exfs:∀ b∈X.ex,b ∉ X.fs
 funs:X.s₀.heap.FunFrames X.base X.outer
 frf:∀ b∈X.fs,X.H₀ b=none
structure Inv (X:Cx) (pins:List (Addr×Obj)) (σ:List (Option V)) (H:Hp) (s:Shared):Prop where
 ok:X.Ok
 os:s.os=X.s₀.os
 bare:AllBare s.gens
 base:Un X.fs X.ex X.H₀ H X.s₀.heap s.heap
 loc:∃ m,s.heap.Ns X.env.locals m/\∀ (i:Nat) (x:Str) (v:V),X.N[i]? = some x->σ[i]? = some (some v)->Vis X.env.scope x->∃ u,RelV v u/\Look X.env s.heap m x u
 cell:∀ x c,X.env.cells.lookup x=some c->∃ v,s.heap.IsCell c v
 free:H X.env.locals=none
 freeC:∀ x c,X.env.cells.lookup x=some c->H c=none
 pin:∀ p∈X.pn++pins,s.heap.get? p.1=some p.2/\H p.1=none/\p.1≠X.env.locals/\p.1 ∉ X.fs/\∀ v,p.2.data≠.cell v
 hok:HOk X.prog X.w H s.heap
 len:σ.length=X.N.length
section
variable {X:Cx}{pins:List (Addr×Obj)}{σ:List (Option V)}{H H':Hp}{s:Shared}{h':Heap}
theorem Cx.Ok.nofr (ok:X.Ok) {b:Addr}{o:Obj} (e:X.base.get? b=some o):b ∉ X.fs:=λ hb=>by
 have:=(ok.funs.mem hb).1
 rw[e] at this;cases this
theorem Inv.bs (I:Inv X pins σ H s):∀ b o,X.base.get? b=some o->s.heap.get? b=some o/\H b=none:=λ b o e =>
 ⟨I.base.keep b o (I.ok.bs b o e).1 (I.ok.bs b o e).2 (I.ok.nofr e) (I.ok.noex b o e),I.base.free b o (I.ok.bs b o e).1 (I.ok.bs b o e).2 (I.ok.noex b o e)⟩
theorem Inv.bk (I:Inv X pins σ H s):∀ b o,X.base.get? b=some o->s.heap.get? b=some o:=λ b o e=>(I.bs b o e).1
theorem Inv.mod (I:Inv X pins σ H s):Mod X.K X.mg X.base:=I.ok.mod
theorem Inv.kIn (I:Inv X pins σ H s):X.K.In s.heap:=I.ok.mod.kin.keeps I.bk
theorem Inv.nolimit (I:Inv X pins σ H s):s.heap.NoLimit:=I.ok.mod.nolimit.keeps I.bk
theorem Inv.fr (I:Inv X pins σ H s):∃ m,Fr X.base X.env.locals s.heap m :=
 let ⟨m,hn,_⟩:=I.loc
 ⟨m,hn,I.bk,Nat.le_trans I.ok.bsz I.ok.above⟩
theorem Inv.lt (I:Inv X pins σ H s):X.env.locals<s.heap.objs.size:=let ⟨_,hn,_⟩:=I.loc;hn.lt
theorem Inv.sz (I:Inv X pins σ H s):X.s₀.heap.objs.size<=s.heap.objs.size:=Nat.le_trans I.ok.above (Nat.le_of_lt I.lt)
theorem Inv.nofs (I:Inv X pins σ H s) {a:Addr} (h:s.heap.objs.size<=a):a ∉ X.fs:=λ hb=>by
 obtain⟨_,o,ho,_⟩:=I.ok.funs.mem hb
 exact absurd (Nat.lt_of_lt_of_le (Heap.lt_size ho) (Nat.le_trans I.sz h)) (Nat.lt_irrefl _)
theorem Inv.cne (I:Inv X pins σ H s):∀ x c,X.env.cells.lookup x=some c->c≠X.env.locals:=λ x c e z=>by
 obtain⟨v,o,ho,hd⟩:=I.cell x c e
 obtain⟨m,⟨o',es,ep,ho',hd',_⟩,_⟩:=I.loc
 rw[z,ho'] at ho;cases ho;rw[hd'] at hd;cases hd
theorem Inv.funs (I:Inv X pins σ H s):s.heap.FunFrames X.base X.outer:=by
 have all:∀ (l:List Env),(∀ b∈frs l,b∈X.fs)->X.s₀.heap.FunFrames X.base l->s.heap.FunFrames X.base l:=by
  intro l
  induction l with
  | nil=>intro _ _;trivial
  | cons env r ih =>
   intro hs hl
   obtain⟨hk,⟨L,o,hf,hn,ho,hd⟩,hr⟩:=hl
   have hL:L∈X.fs:=hs L (by unfold frs;rw[List.filterMap_cons,hf];exact List.mem_cons_self)
   obtain⟨sl,e⟩:=I.base.slot L o ho (I.ok.frf L hL) hL λ z=>I.ok.exfs L z hL
   exact⟨hk,⟨L,_,hf,hn,e,hd⟩,ih (λ b hb=>hs b (by unfold frs;rw[List.filterMap_cons,hf];exact List.mem_cons_of_mem _ hb)) hr⟩
 exact all X.outer (λ _ hb=>hb) I.ok.funs
theorem Inv.stack (I:Inv X pins σ H s):s.heap.FunFrames X.base X.stack:=by
 rcases I.ok.stk with e | ⟨e,hf⟩
 ·rw[e];exact I.funs
 ·rw[e]
  obtain⟨m,hn,_⟩:=I.loc
  refine .cons (by rw[I.ok.kind];decide) hf hn ?_ I.funs
  exact Heap.get?_none_of_le (Nat.le_trans I.ok.bsz I.ok.above)
theorem Inv.stkSub (I:Inv X pins σ H s):∀ b∈frs X.stack,b∈X.env.locals::X.fs:=λ b hb=>by
 rcases I.ok.stk with e | ⟨e,hf⟩
 ·rw[e] at hb;exact List.mem_cons_of_mem _ hb
 ·rw[e] at hb
  unfold frs at hb
  rw[List.filterMap_cons,hf] at hb
  exact hb
theorem Inv.stkFree (I:Inv X pins σ H s):∀ b∈frs X.stack,H b=none:=λ b hb=>by
 rcases List.mem_cons.mp (I.stkSub b hb) with e | hb
 ·rw[e];exact I.free
 ·obtain⟨_,o,ho,_⟩:=I.ok.funs.mem hb
  exact I.base.free b o ho (I.ok.frf b hb) λ z=>I.ok.exfs b z hb
theorem Inv.step {g':Array GenState}{t':Nat}{d':Drawn}{ch:List Addr} (I:Inv X pins σ H s)
  (hch:∀ b∈ch,(b∈X.ex∨X.s₀.heap.objs.size<=b)/\b≠X.env.locals/\(∀ x c,X.env.cells.lookup x=some c->c≠b)/\∀ p∈X.pn++pins,p.1≠b)
  (keep:∀ b o,b≠X.env.locals->b ∉ X.fs->b ∉ ch->s.heap.get? b=some o->H b=none->h'.get? b=some o)
  (slot:∀ b o,b≠X.env.locals->b∈X.fs->b ∉ ch->s.heap.get? b=some o->H b=none->∃ sl,h'.get? b=some {o with slots:=sl}) (free:∀ b o,b ∉ ch->s.heap.get? b=some o->H b=none->H' b=none)
  (there:∀ b o,b ∉ ch->s.heap.get? b=some o->∃ o',h'.get? b=some o')
  (tups:∀ b xs,H b=some (.tup xs)->H' b=some (.tup xs)) (frzs:∀ b o u,H b=some (.frz o u)->H' b=some (.frz o u)) (tbls:∀ b ps,H b=some (.tbl ps)->∃ more,H' b=some (.tbl (ps++more)))
  (ns:∀ m,s.heap.Ns X.env.locals m->h'.Ns X.env.locals m) (hok:HOk X.prog X.w H' h') (hg:AllBare g') :
  Inv X pins σ H' {s with heap:=h',gens:=g',drawn:=d',toks:=t'}:=by
 have neL:∀ b o,X.s₀.heap.get? b=some o->b≠X.env.locals:=λ b o e=>Nat.ne_of_lt (Nat.lt_of_lt_of_le (Heap.lt_size e) I.ok.above)
 have neC:∀ b o,X.s₀.heap.get? b=some o->b ∉ X.ex->b ∉ ch:=λ b o e hx hb=>by
  rcases (hch b hb).1 with z | z
  ·exact hx z
  ·exact absurd (Nat.lt_of_lt_of_le (Heap.lt_size e) z) (Nat.lt_irrefl _)
 have cellK:∀ x c,X.env.cells.lookup x=some c->∀ v,s.heap.IsCell c v->h'.IsCell c v:=λ x c e v ⟨o,ho,hd⟩=>by
  have nch:c ∉ ch:=λ z=>(hch c z).2.2.1 x c e rfl
  by_cases hc:c∈X.fs
  ·obtain⟨sl,q⟩:=slot c o (I.cne x c e) hc nch ho (I.freeC x c e)
   exact⟨_,q,hd⟩
  ·exact⟨o,keep c o (I.cne x c e) hc nch ho (I.freeC x c e),hd⟩
 refine⟨I.ok,I.os,hg,⟨λ b o e n hb hx=>?_,λ b o e n hb hx=>?_,λ b o e n hx=>?_,λ b o e hx=>?_,λ b xs e=>tups b xs (I.base.tups b xs e),λ b o xs e=>frzs b o xs (I.base.frzs b o xs e),λ b ps e=>?_⟩,?_,λ x c e=>?_,?_,λ x c e=>?_,λ p hp=>?_,hok,I.len⟩
 ·exact keep b o (neL b o e) hb (neC b o e hx) (I.base.keep b o e n hb hx) (I.base.free b o e n hx)
 ·obtain⟨sl,e1⟩:=I.base.slot b o e n hb hx
  obtain⟨sl',e2⟩:=slot b _ (neL b o e) hb (neC b o e hx) e1 (I.base.free b o e n hx)
  exact⟨sl',e2⟩
 ·obtain⟨o',e1⟩:=I.base.there b o e hx
  exact free b o' (neC b o e hx) e1 (I.base.free b o e n hx)
 ·obtain⟨o',e1⟩:=I.base.there b o e hx
  exact there b o' (neC b o e hx) e1
 ·obtain⟨m1,e1⟩:=I.base.tbls b ps e
  obtain⟨m2,e2⟩:=tbls b _ e1
  exact⟨m1++m2,by rw[e2,Array.append_assoc]⟩
 ·obtain⟨m,hn,hl⟩:=I.loc
  refine⟨m,ns m hn,λ i x v e1 e2 e3=>?_⟩
  obtain⟨u,r,l⟩:=hl i x v e1 e2 e3
  refine⟨u,r,?_⟩
  rcases l with l | ⟨k,c,e,z⟩
  ·exact .inl l
  ·exact .inr ⟨k,c,e,cellK x c e _ z⟩
 ·obtain⟨v,z⟩:=I.cell x c e
  exact⟨v,cellK x c e v z⟩
 ·obtain⟨m,⟨o,_,_,ho,_⟩,_⟩:=I.loc
  exact free _ o (λ z=>(hch _ z).2.1 rfl) ho I.free
 ·obtain⟨v,o,ho,hd⟩:=I.cell x c e
  exact free c o (λ z=>(hch c z).2.2.1 x c e rfl) ho (I.freeC x c e)
 ·obtain⟨e,n,ne,nf,d⟩:=I.pin p hp
  have nch:p.1 ∉ ch:=λ z=>(hch p.1 z).2.2.2 p hp rfl
  exact⟨keep p.1 p.2 ne nf nch e n,free p.1 p.2 nch e n,ne,nf,d⟩
theorem Inv.un {t':Nat} (I:Inv X pins σ H s) (u:Un X.fs [] H H' s.heap h') (hok:HOk X.prog X.w H' h'):Inv X pins σ H' {s with heap:=h',toks:=t'}:=by
 obtain⟨m,⟨o,es,ep,ho,r⟩,_⟩:=id I.loc
 obtain⟨sl,hL⟩:=u.any ho I.free (by simp)
 exact I.step (g':=s.gens) (d':=s.drawn) (ch:=[]) (λ _ z=>nomatch z) (λ b o _ hb _ e n=>u.keep b o e n hb (by simp)) (λ b o _ hb _ e n=>u.slot b o e n hb (by simp)) (λ b o _ e n=>u.free b o e n (by simp)) (λ b o _ e=>u.there b o e (by simp)) u.tups u.frzs u.tbls (λ m' hm=>by
  obtain⟨o',es',ep',ho',r'⟩:=hm
  rw[ho] at ho';cases ho'
  exact⟨_,es',ep',hL,r'⟩) hok I.bare
theorem Inv.call {g':Array GenState}{t':Nat}{d':Drawn}{ch:List Addr} (I:Inv X pins σ H s) (u:Un (frs X.stack) ch H H' s.heap h') (hok:HOk X.prog X.w H' h') (hg:AllBare g')
  (hch:∀ b∈ch,(b∈X.ex∨X.s₀.heap.objs.size<=b)/\b≠X.env.locals/\(∀ x c,X.env.cells.lookup x=some c->c≠b)/\∀ p∈X.pn++pins,p.1≠b) :
  Inv X pins σ H' {s with heap:=h',gens:=g',drawn:=d',toks:=t'}:=by
 obtain⟨m,⟨o,es,ep,ho,r⟩,_⟩:=id I.loc
 obtain⟨sl,hL⟩:=u.any ho I.free λ z=>(hch _ z).2.1 rfl
 exact I.step (ch:=ch) hch (λ b o hL hb hc e n=>u.keep b o e n (λ z=>(List.mem_cons.mp (I.stkSub b z)).elim hL hb) hc) (λ b o _ _ hc e n=>u.any e n hc) (λ b o hc e n=>u.free b o e n hc) (λ b o hc e=>u.there b o e hc) u.tups u.frzs u.tbls (λ m' hm=>by
  obtain⟨o',es',ep',ho',r'⟩:=hm
  rw[ho] at ho';cases ho'
  exact⟨_,es',ep',hL,r'⟩) hok hg
theorem Inv.turned {t':Nat}{it:Addr} (I:Inv X pins σ H s) (k:∀ b o,b≠it->s.heap.get? b=some o->h'.get? b=some o) (hn:H it=none) (hL:it≠X.env.locals)
  (h1:it∈X.ex∨X.s₀.heap.objs.size<=it) (h2:∀ x c,X.env.cells.lookup x=some c->c≠it) (h3:∀ p∈X.pn++pins,p.1≠it):Inv X pins σ H {s with heap:=h',toks:=t'}:=by
 have nit:∀ b u,H b=some u->b≠it:=λ b u e z=>by rw[z,hn] at e;cases e
 refine I.step (g':=s.gens) (d':=s.drawn) (ch:=[it]) (λ b hb=>?_) (λ b o _ _ hc e _=>k b o (λ z=>hc (by simp [z])) e) (λ b o _ _ hc e _=>⟨o.slots,k b o (λ z=>hc (by simp [z])) e⟩) (λ _ _ _ _ n=>n)
  (λ b o hc e=>⟨o,k b o (λ z=>hc (by simp [z])) e⟩) (λ _ _ e=>e) (λ _ _ _ e=>e) (λ b ps e=>⟨#[],by rw[e];simp⟩) (λ m hm=>?_) (λ b u e=>?_) I.bare
 ·have e:b=it:=by simpa using hb
  subst e
  exact⟨h1,hL,h2,h3⟩
 ·obtain⟨o,es,ep,ho,r⟩:=hm
  exact⟨o,es,ep,k _ o (Ne.symm hL) ho,r⟩
 ·refine (I.hok b u e).stay (λ c v hc q=>k c v ?_ q) (λ _ q=>q) λ _ _ q=>q
  rcases hc with z | z
  ·rw[z];exact nit b u e
  ·exact nit c _ z
theorem Inv.tok (I:Inv X pins σ H s) (t:Nat):Inv X pins σ H {s with toks:=t}:=I.un (h':=s.heap) (t':=t) Un.refl I.hok
theorem Inv.kept {t':Nat} (I:Inv X pins σ H s) (k:∀ b u,s.heap.get? b=some u->h'.get? b=some u):Inv X pins σ H {s with heap:=h',toks:=t'}:=I.un (Un.kept k) (I.hok.kept k)
theorem Inv.laid {a:Addr}{o:HO}{t':Nat} (I:Inv X pins σ H s) (k:∀ b u,s.heap.get? b=some u->h'.get? b=some u) (hp:s.heap.objs.size<=a) (new:ObjOk X.prog X.w (upd H a o) h' a o) :
  Inv X pins σ (upd H a o) {s with heap:=h',toks:=t'}:=I.un (Un.laid k hp (I.hok.fresh hp)) (I.hok.laid k hp new)
theorem Inv.write {x e:Addr}{o:HO}{t':Nat} (I:Inv X pins σ H s) (mu:Mut (H x)) (he:e=x∨H e=some (.own x)) (k:∀ b u,b≠e->s.heap.get? b=some u->h'.get? b=some u) (heo:∃ u,h'.get? e=some u)
  (new:ObjOk X.prog X.w (upd H x o) h' x o):Inv X pins σ (upd H x o) {s with heap:=h',toks:=t'}:=I.un (Un.write mu he k heo) (I.hok.write mu he k heo new)
theorem Inv.pins_of {pins':List (Addr×Obj)} (I:Inv X pins σ H s) (h:∀ p∈pins',s.heap.get? p.1=some p.2/\H p.1=none/\p.1≠X.env.locals/\p.1 ∉ X.fs/\∀ v,p.2.data≠.cell v):Inv X pins' σ H s :=
 ⟨I.ok,I.os,I.bare,I.base,I.loc,I.cell,I.free,I.freeC,λ p hp=>(List.mem_append.mp hp).elim (λ z=>I.pin p (List.mem_append_left _ z)) (h p),I.hok,I.len⟩
theorem nodup_ix {N:List Str} (hN:N.Nodup) {i j:Nat}{x:Str} (a:N[i]? = some x) (b:N[j]? = some x):i=j:=by
 obtain⟨h1,e1⟩:=List.getElem?_eq_some_iff.mp a
 obtain⟨h2,e2⟩:=List.getElem?_eq_some_iff.mp b
 exact (List.getElem_inj hN).mp (e1.trans e2.symm)
theorem store_ok2 {M:Model}{A:Around}{E:Value->Shared->Prop}{i:Nat}{x:Str}{v:V}{u:Value}{Q:Unit->Shared->Prop} (I:Inv X pins σ H s) (hN:X.N.Nodup) (hi:X.N[i]? = some x) (hx:Loc X.env.scope x) (r:RelV v u)
  (h:∀ s',Inv X pins (σ.set i (some v)) H s'->(∃ a,Heap.SameBut a s.heap s'.heap/\(a=X.env.locals∨X.env.cells.lookup x=some a))->Q () s') (hf:X.fn x=true∨X.env.scope.names.lookup x=some .local:=by first | exact .inl rfl | exact .inr rfl | assumption):wpAny M A (storeName X.env x u) Q E s:=by
 obtain⟨m,hn,hl⟩:=id I.loc
 have hcls:(X.env.scope.kind == .class || (X.env.scope.kind == .module && X.env.locals != X.env.globals))=false:=by rw[I.ok.kind];rfl
 have hiσ:i < σ.length:=by rw[I.len];exact (List.getElem?_eq_some_iff.mp hi).1
 have cne:=I.cne
 have tracked:∀ {a:Addr}{h':Heap},(∃ o,s.heap.get? a=some o/\H a=none)->Heap.SameBut a s.heap h'->HOk X.prog X.w H h':=λ {a h'} ha hs b ob e=>by
  obtain⟨_,_,hfree⟩:=ha
  refine (I.hok b ob e).stay (λ c w' hc q=>(hs.2 c ?_).trans q) (λ _ q=>q) λ _ _ q=>q
  rintro rfl
  rcases hc with rfl | hc
  ·rw[hfree] at e;cases e
  ·rw[hfree] at hc;cases hc
 rcases hx with hk | hk
 ·refine wpAny_storeName_local hk hn (λ h' hn' hs=>?_) hcls
  obtain⟨oL,_,_,hoL,_⟩:=id hn
  refine h _ ⟨I.ok,I.os,I.bare,⟨λ b o e n hb hx=>?_,λ b o e n hb hx=>?_,I.base.free,λ b o e hx=>?_,I.base.tups,I.base.frzs,I.base.tbls⟩,⟨_,hn',λ j y v' e1 e2 e3=>?_⟩,λ y c e=>?_,I.free,I.freeC,λ p hp=>?_,tracked ⟨oL,hoL,I.free⟩ hs,by simpa using I.len⟩ ⟨_,hs,.inl rfl⟩
  ·exact (hs.2 b (Nat.ne_of_lt (Nat.lt_of_lt_of_le (Heap.lt_size e) I.ok.above))).trans (I.base.keep b o e n hb hx)
  ·obtain⟨sl,e1⟩:=I.base.slot b o e n hb hx
   exact⟨sl,(hs.2 b (Nat.ne_of_lt (Nat.lt_of_lt_of_le (Heap.lt_size e) I.ok.above))).trans e1⟩
  ·obtain⟨o',e1⟩:=I.base.there b o e hx
   exact⟨o',(hs.2 b (Nat.ne_of_lt (Nat.lt_of_lt_of_le (Heap.lt_size e) I.ok.above))).trans e1⟩
  ·by_cases hj:j=i
   ·subst hj
    rw[hi] at e1;cases e1
    rw[List.getElem?_set_self hiσ] at e2
    cases e2
    exact⟨u,r,.inl ⟨hk,by simp⟩⟩
   ·rw[List.getElem?_set_ne (Ne.symm hj)] at e2
    obtain⟨u',r',q⟩:=hl j y v' e1 e2 e3
    refine⟨u',r',?_⟩
    rcases q with ⟨k,e⟩ | ⟨k,c,e,z⟩
    ·refine .inl ⟨k,?_⟩
     have:y≠x:=λ e=>hj (nodup_ix hN e1 (e ▸ hi))
     simp [this,e]
    ·exact .inr ⟨k,c,e,z.sameBut hs (cne y c e)⟩
  ·obtain⟨w',z⟩:=I.cell y c e
   exact⟨w',z.sameBut hs (cne y c e)⟩
  ·obtain⟨e,n,ne,nf,d⟩:=I.pin p hp
   exact⟨(hs.2 p.1 ne).trans e,n,ne,nf,d⟩
 ·have hfn:X.fn x=true:=by
   rcases hf with z | z
   ·exact z
   ·rw[z] at hk;cases hk
  obtain⟨c,hc⟩:=I.ok.has x (.inl hk)
  obtain⟨w',z⟩:=I.cell x c hc
  refine wpAny_storeName_cell I.ok.kind hk hc z (λ h' hc' hs=>?_)
  obtain⟨oc,hoc,hocd⟩:=id z
  refine h {s with heap:=h'} ⟨I.ok,I.os,I.bare,⟨λ b o e n hb hx=>?_,λ b o e n hb hx=>?_,I.base.free,λ b o e hx=>?_,I.base.tups,I.base.frzs,I.base.tbls⟩,⟨m,hn.sameBut hs (Ne.symm (cne x c hc)),λ j y v' e1 e2 e3=>?_⟩,λ y c' e=>?_,I.free,I.freeC,λ p hp=>?_,tracked ⟨oc,hoc,I.freeC x c hc⟩ hs,by simpa using I.len⟩ ⟨c,hs,.inr hc⟩
  ·exact (hs.2 b (Nat.ne_of_lt (Nat.lt_of_lt_of_le (Heap.lt_size e) (I.ok.cab x c hfn hc)))).trans (I.base.keep b o e n hb hx)
  ·obtain⟨sl,e1⟩:=I.base.slot b o e n hb hx
   exact⟨sl,(hs.2 b (Nat.ne_of_lt (Nat.lt_of_lt_of_le (Heap.lt_size e) (I.ok.cab x c hfn hc)))).trans e1⟩
  ·obtain⟨o',e1⟩:=I.base.there b o e hx
   exact⟨o',(hs.2 b (Nat.ne_of_lt (Nat.lt_of_lt_of_le (Heap.lt_size e) (I.ok.cab x c hfn hc)))).trans e1⟩
  ·by_cases hj:j=i
   ·subst hj
    rw[hi] at e1;cases e1
    rw[List.getElem?_set_self hiσ] at e2
    cases e2
    exact⟨u,r,.inr ⟨.inl hk,c,hc,hc'⟩⟩
   ·rw[List.getElem?_set_ne (Ne.symm hj)] at e2
    obtain⟨u',r',q⟩:=hl j y v' e1 e2 e3
    refine⟨u',r',?_⟩
    rcases q with q | ⟨k,c',e,z'⟩
    ·exact .inl q
    ·refine .inr ⟨k,c',e,z'.sameBut hs ?_⟩
     rintro rfl
     exact hj (nodup_ix hN e1 (I.ok.inj _ _ _ e hc ▸ hi))
  ·by_cases hcc:c'=c
   ·subst hcc;exact⟨_,hc'⟩
   ·obtain⟨w2,z2⟩:=I.cell y c' e
    exact⟨w2,z2.sameBut hs hcc⟩
  ·obtain⟨e,n,ne,nf,d⟩:=I.pin p hp
   refine⟨(hs.2 p.1 ?_).trans e,n,ne,nf,d⟩
   intro q
   rw[q,hoc] at e
   have q':oc=p.2:=Option.some.inj e
   exact d w' (by rw[<-q'];exact hocd)
theorem store_ok {M:Model}{A:Around}{E:Value->Shared->Prop}{i:Nat}{x:Str}{v:V}{u:Value}{Q:Unit->Shared->Prop} (I:Inv X pins σ H s) (hN:X.N.Nodup) (hi:X.N[i]? = some x) (hx:Loc X.env.scope x) (r:RelV v u)
  (h:∀ s',Inv X pins (σ.set i (some v)) H s'->Q () s') (hf:X.fn x=true∨X.env.scope.names.lookup x=some .local:=by first | exact .inl rfl | exact .inr rfl | assumption):wpAny M A (storeName X.env x u) Q E s :=
 store_ok2 I hN hi hx r (λ s' I' _=>h s' I') hf
theorem Inv.call' {s':Shared}{ch:List Addr} (I:Inv X pins σ H s) (ho:s'.os=s.os) (u:Un (frs X.stack) ch H H' s.heap s'.heap) (hok:HOk X.prog X.w H' s'.heap) (hg:AllBare s'.gens)
  (hch:∀ b∈ch,(b∈X.ex∨X.s₀.heap.objs.size<=b)/\b≠X.env.locals/\(∀ x c,X.env.cells.lookup x=some c->c≠b)/\∀ p∈X.pn++pins,p.1≠b):Inv X pins σ H' s':=by
 obtain⟨h',g',d',t',o'⟩:=s'
 have e:o'=s.os:=ho
 subst e
 exact I.call (g':=g') (t':=t') (d':=d') u hok hg hch
end
noncomputable abbrev XK:=Value->Option Addr->Hp->Prop
noncomputable abbrev St:=List (Option V)
noncomputable abbrev VK:=V->Hp->Prop
noncomputable abbrev TE:=St->Hp->VK->Prop
noncomputable abbrev TT:=St->Hp->(Bool->Hp->Prop)->Prop
noncomputable abbrev TA:=St->Hp->(List V->Hp->Prop)->Prop
structure Ends where
 nx:St->Hp->Prop
 rt:VK
 bk:St->Hp->Prop:=λ _ _=>False
 ct:St->Hp->Prop:=λ _ _=>False
noncomputable abbrev TS:=Ends->St->Hp->Prop
noncomputable def EP (X:Cx) (pins:List (Addr×Obj)) (σ:St) (Q:VK) (u:Value) (s':Shared):Prop:=∃ v H',Inv X pins σ H' s'/\RelV v u/\Q v H'
noncomputable def TP (X:Cx) (pins:List (Addr×Obj)) (σ:St) (Q:Bool->Hp->Prop) (b:Bool) (s':Shared):Prop:=∃ H',Inv X pins σ H' s'/\Q b H'
noncomputable def AP (X:Cx) (pins:List (Addr×Obj)) (σ:St) (Q:List V->Hp->Prop) (us:List Value) (s':Shared):Prop:=∃ vs H',Inv X pins σ H' s'/\Vals vs us/\Q vs H'
noncomputable def SP (X:Cx) (pins:List (Addr×Obj)) (D:Ends) (f:Flow) (s':Shared):Prop :=
 match f with
 | .next=>∃ σ' H',Inv X pins σ' H' s'/\D.nx σ' H'
 | .brk=>∃ σ' H',Inv X pins σ' H' s'/\D.bk σ' H'
 | .cont=>∃ σ' H',Inv X pins σ' H' s'/\D.ct σ' H'
 | .ret u=>∃ v σ' H',Inv X pins σ' H' s'/\RelV v u/\D.rt v H'
noncomputable def PE (X:Cx) (e:Expr) (t:TE):Prop :=
 ∀ (pins:List (Addr×Obj)) (s:Shared) (σ:St) (H:Hp) (Q:VK),Inv X pins σ H s->t σ H Q->wpAny (model X.prog X.w) X.A (eval e X.env) (EP X pins σ Q) X.xe s
noncomputable def PT (X:Cx) (e:Expr) (t:TT):Prop :=
 ∀ (pins:List (Addr×Obj)) (s:Shared) (σ:St) (H:Hp) (Q:Bool->Hp->Prop),Inv X pins σ H s->t σ H Q->wpAny (model X.prog X.w) X.A (isTrue e X.env (eval e X.env)) (TP X pins σ Q) X.xe s
noncomputable def PW (X:Cx) (e:Expr) (t:TT):Prop :=
 ∀ (whole:Sem Value) (pins:List (Addr×Obj)) (s:Shared) (σ:St) (H:Hp) (Q:Bool->Hp->Prop),Inv X pins σ H s->t σ H Q->wpAny (model X.prog X.w) X.A (isTrue e X.env whole) (TP X pins σ Q) X.xe s
theorem PW.pt {X:Cx}{e:Expr}{t:TT} (h:PW X e t):PT X e t:=h _
noncomputable def PA (X:Cx) (es:List Expr) (t:TA):Prop :=
 ∀ (pos:Pos) (pins:List (Addr×Obj)) (s:Shared) (σ:St) (H:Hp) (Q:List V->Hp->Prop),Inv X pins σ H s->t σ H Q->wpAny (model X.prog X.w) X.A (spliced (backTo pos (starEach es X.env))) (AP X pins σ Q) X.xe s
noncomputable def PS (X:Cx) (st:Stmt) (t:TS):Prop :=
 ∀ (pins:List (Addr×Obj)) (s:Shared) (σ:St) (H:Hp) (D:Ends),Inv X pins σ H s->t D σ H->wpAny (model X.prog X.w) X.A (exec st X.env) (SP X pins D) X.xe s
noncomputable def PSs (X:Cx) (st:List Stmt) (t:TS):Prop :=
 ∀ (pins:List (Addr×Obj)) (s:Shared) (σ:St) (H:Hp) (D:Ends),Inv X pins σ H s->t D σ H->wpAny (model X.prog X.w) X.A (execs st X.env) (SP X pins D) X.xe s
theorem thn {α:Type}{t:Sem α}{Q Q':α->Shared->Prop}{M:Model}{A:Around}{E:Value->Shared->Prop}{s:Shared} (h:wpAny M A t Q E s) (hQ:∀ a s,Q a s->Q' a s):wpAny M A t Q' E s:=wpAny_mono h hQ λ _ _ x=>x
end L2
namespace L2
open PySem PySem.Spec PyProof.Rows
section
variable {X:Cx}
noncomputable def tVar (i:Nat):TE:=λ σ H Q=>∃ v,σ[i]? = some (some v)/\Q v H
noncomputable def tC (v:V):TE:=λ _ H Q=>Q v H
theorem pe_var {i:Nat}{x:Str}{pos:Pos} (hN:X.N[i]? = some x) (hv:Vis X.env.scope x) (hd:(x == ("__debug__":Str))=false:=by decide) (hcd:(x == ("__classdict__":Str))=false:=by decide):PE X (.Name x pos) (tVar i):=by
 intro pins s σ H Q I h
 obtain⟨v,e,h⟩:=h
 obtain⟨m,hn,hl⟩:=I.loc
 obtain⟨u,r,l⟩:=hl i x v hN e hv
 have fin:EP X pins σ Q u s:=⟨v,H,I,r,h⟩
 rcases l with ⟨hk,hm⟩ | ⟨hk,c,hc,hcell⟩
 ·exact wpAny_Name (wpAny_loadName_local I.ok.kind hk hn hm fin) hd
 ·rcases hk with hk | hk
  ·exact wpAny_Name (wpAny_loadName_cell I.ok.kind hk hc hcell fin) hd
  ·exact wpAny_Name (wpAny_loadName_free I.ok.kind hk hc hcell fin hcd) hd
theorem pe_int {i j pos}:PE X (.Constant (.int i) j pos) (tC (.int i)):=λ _ _ _ H _ I h=>wpAny_Constant_int ⟨.int i,H,I.tok _,⟨_,rfl⟩,h⟩
theorem pe_bl {b j pos}:PE X (.Constant (.bool b) j pos) (tC (.bl b)):=λ _ _ _ H _ I h=>Constant_bool ⟨.bl b,H,I,rfl,h⟩
theorem pe_non {j pos}:PE X (.Constant .none j pos) (tC .non):=λ _ _ _ H _ I h=>Constant_none ⟨.non,H,I,rfl,h⟩
theorem pe_str {x j pos}:PE X (.Constant (.str x) j pos) (tC (.str x)):=λ _ _ _ H _ I h=>Calls.Constant_str ⟨.str x,H,I.tok _,⟨_,rfl⟩,h⟩
noncomputable def Gl (X:Cx) (x:Str):Prop:=X.env.kindOf x=some .globalImplicit
theorem ld_glob {E:Value->Shared->Prop}{pins:List (Addr×Obj)}{s:Shared}{σ:St}{H:Hp}{x:Str}{u:Value}{pos:Pos}{Q:Value->Shared->Prop} (I:Inv X pins σ H s) (hg:Gl X x) (hm:X.mg x=some u) (h:Q u s)
  (hd:(x == ("__debug__":Str))=false:=by decide):wpAny (model X.prog X.w) X.A (eval (.Name x pos) X.env) Q E s :=
 Calls.Name_function_global I.ok.kind hg (Calls.loadGlobal_global (by rw[I.ok.glob];exact I.mod.glob.keeps I.bk) hm h) hd
theorem ld_blt {E:Value->Shared->Prop}{pins:List (Addr×Obj)}{s:Shared}{σ:St}{H:Hp}{x:Str}{u:Value}{pos:Pos}{Q:Value->Shared->Prop} (I:Inv X pins σ H s) (hg:Gl X x) (hm:X.mg x=none) (hv:bootBuiltins x=some u) (h:Q u s)
  (hn:x≠"__name__":=by decide) (hd:(x == ("__debug__":Str))=false:=by decide):wpAny (model X.prog X.w) X.A (eval (.Name x pos) X.env) Q E s:=by
 obtain⟨mb,h1,h2⟩:=I.mod.blt
 exact Calls.Name_function_global I.ok.kind hg (Calls.loadGlobal_builtin (by rw[I.ok.glob];exact I.mod.glob.keeps I.bk) hm (by rw[I.ok.blt];exact h1.keeps I.bk) ((h2 x hn).trans hv) h) hd
theorem pe_glob {x:Str}{v:V}{u:Value}{pos:Pos} (hg:Gl X x) (hm:X.mg x=some u) (r:RelV v u) (hd:(x == ("__debug__":Str))=false:=by decide):PE X (.Name x pos) (tC v) :=
 λ _ _ _ H _ I h=>ld_glob I hg hm ⟨v,H,I,r,h⟩ hd
theorem pe_bltn {x:Str}{v:V}{u:Value}{pos:Pos} (hg:Gl X x) (hm:X.mg x=none) (hv:bootBuiltins x=some u) (r:RelV v u) (hn:x≠"__name__":=by decide) (hd:(x == ("__debug__":Str))=false:=by decide):PE X (.Name x pos) (tC v) :=
 λ _ _ _ H _ I h=>ld_blt I hg hm hv ⟨v,H,I,r,h⟩ hn hd
variable {a b:Expr}{ta tb:TE}{pos:Pos}
noncomputable def tB (t:TE):TT:=λ σ H Q=>t σ H λ x H1=>∃ c,x=.bl c/\Q c H1
theorem pt_val {e:Expr}{t:TE} (h:PE X e t) (he:∀ whole,isTrue e X.env whole=(do let v <-whole;standAt e.pos;holding [v] (truthy v)):=by intro _;rfl):PT X e (tB t):=by
 intro pins s σ H Q I hw
 refine isTrue_plain (thn (h pins s σ H _ I hw) λ v s1 ⟨x,H1,I1,r1,q1⟩=>?_) (he _)
 obtain⟨d,rfl,q⟩:=q1
 cases r1
 exact wpAny_truthy_bool ⟨H1,I1,q⟩
variable {tA tB':TT}{rest:List Expr}
noncomputable def tAnd (t u:TT):TT:=λ σ H Q=>t σ H λ c H1=>if c=true then u σ H1 Q else Q false H1
noncomputable def tOr (t u:TT):TT:=λ σ H Q=>t σ H λ c H1=>if c=true then Q true H1 else u σ H1 Q
noncomputable def tNot (t:TT):TT:=λ σ H Q=>t σ H λ c H1=>Q (!c) H1
theorem pw_and1 (ha:PT X a tA):PW X (.BoolOp .And [a] pos) tA:=by
 intro wh pins s σ H Q I h
 refine isTrue_and (thn (ha pins s σ H Q I h) λ c s1 e=>?_)
 cases c with
 | true=>exact isTrue_and_nil e
 | false=>exact e
theorem pw_or1 (ha:PT X a tA):PW X (.BoolOp .Or [a] pos) tA:=by
 intro wh pins s σ H Q I h
 refine isTrue_or (thn (ha pins s σ H Q I h) λ c s1 e=>?_)
 cases c with
 | false=>exact isTrue_or_nil e
 | true=>exact e
theorem pw_and (ha:PT X a tA) (hb:PW X (.BoolOp .And (b::rest) pos) tB'):PW X (.BoolOp .And (a::b::rest) pos) (tAnd tA tB'):=by
 intro wh pins s σ H Q I h
 refine isTrue_and (thn (ha pins s σ H _ I h) λ c s1 ⟨H1,I1,q1⟩=>?_)
 cases c with
 | true=>exact hb wh pins s1 σ H1 Q I1 q1
 | false=>exact⟨H1,I1,q1⟩
theorem pw_or (ha:PT X a tA) (hb:PW X (.BoolOp .Or (b::rest) pos) tB'):PW X (.BoolOp .Or (a::b::rest) pos) (tOr tA tB'):=by
 intro wh pins s σ H Q I h
 refine isTrue_or (thn (ha pins s σ H _ I h) λ c s1 ⟨H1,I1,q1⟩=>?_)
 cases c with
 | true=>exact⟨H1,I1,q1⟩
 | false=>exact hb wh pins s1 σ H1 Q I1 q1
theorem pt_not (ha:PT X a tA):PT X (.UnaryOp .Not a pos) (tNot tA):=by
 intro pins s σ H Q I h
 exact isTrue_not (ha pins s σ H (λ c H1=>Q (!c) H1) I h)
noncomputable def tAndV (ta tb:TE):TE:=λ σ H Q=>ta σ H λ x H1=>∃ c,x=.bl c/\if c=true then tb σ H1 Q else Q (.bl false) H1
noncomputable def tOrV (ta tb:TE):TE:=λ σ H Q=>ta σ H λ x H1=>∃ c,x=.bl c/\if c=true then Q (.bl true) H1 else tb σ H1 Q
noncomputable def tNotV (ta:TE):TE:=λ σ H Q=>ta σ H λ x H1=>∃ c,x=.bl c/\Q (.bl (!c)) H1
theorem pe_one {op}{t:TE} (h:PE X a t):PE X (.BoolOp op [a] pos) t:=λ pins s σ H Q I hw=>BoolOp_one (h pins s σ H Q I hw)
theorem pe_and (ha:PE X a ta) (hb:PE X (.BoolOp .And (b::rest) pos) tb):PE X (.BoolOp .And (a::b::rest) pos) (tAndV ta tb):=by
 intro pins s σ H Q I h
 refine BoolOp_and (thn (ha pins s σ H _ I h) λ v s1 ⟨x,H1,I1,r1,q1⟩=>?_)
 obtain⟨c,rfl,q1⟩:=q1
 cases r1
 refine wpAny_truthy_bool ?_
 cases c with
 | true=>exact hb pins s1 σ H1 Q I1 q1
 | false=>exact⟨.bl false,H1,I1,rfl,q1⟩
theorem pe_or (ha:PE X a ta) (hb:PE X (.BoolOp .Or (b::rest) pos) tb):PE X (.BoolOp .Or (a::b::rest) pos) (tOrV ta tb):=by
 intro pins s σ H Q I h
 refine BoolOp_or (thn (ha pins s σ H _ I h) λ v s1 ⟨x,H1,I1,r1,q1⟩=>?_)
 obtain⟨c,rfl,q1⟩:=q1
 cases r1
 refine wpAny_truthy_bool ?_
 cases c with
 | false=>exact hb pins s1 σ H1 Q I1 q1
 | true=>exact⟨.bl true,H1,I1,rfl,q1⟩
theorem pe_not (ha:PE X a ta):PE X (.UnaryOp .Not a pos) (tNotV ta):=by
 intro pins s σ H Q I h
 refine UnaryOp_ (thn (ha pins s σ H _ I h) λ v s1 ⟨x,H1,I1,r1,q1⟩=>?_)
 obtain⟨c,rfl,q1⟩:=q1
 cases r1
 exact not_of (wpAny_truthy_bool ⟨.bl (!c),H1,I1,rfl,q1⟩)
noncomputable def tIf (t:TT) (ta tb:TE):TE:=λ σ H Q=>t σ H λ c H1=>if c=true then ta σ H1 Q else tb σ H1 Q
theorem pe_ifExp {c:Expr} (hc:PT X c tA) (ha:PE X a ta) (hb:PE X b tb):PE X (.IfExp c a b pos) (tIf tA ta tb):=by
 intro pins s σ H Q I h
 refine wpAny_IfExp (thn (hc pins s σ H _ I h) λ d s1 ⟨H1,I1,q1⟩=>?_)
 cases d with
 | true=>exact ha pins s1 σ H1 Q I1 q1
 | false=>exact hb pins s1 σ H1 Q I1 q1
end
end L2
namespace L2
open PySem PySem.Spec PyProof.Rows
noncomputable def SqL (K:PySem.W.Frag) (H:Hp) (a:Addr) (xs:List V):Prop :=
 Rd H a (.lst xs) ∨
  ∃ (o:Obj) (its:Array Value) (n:Nat),K.lookup a=some o/\o.cls=.type "list"/\o.dict=none/\o.data=.seq its n/\its.size<=sizeLine/\Vals xs its.toList
noncomputable def SqT (K:PySem.W.Frag) (H:Hp) (a:Addr) (xs:List V):Prop :=
 Rd H a (.tup xs) ∨
  ∃ (o:Obj) (its:Array Value) (n:Nat),K.lookup a=some o/\o.cls=.type "tuple"/\o.data=.seq its n/\its.size<=sizeLine/\Vals xs its.toList
noncomputable def absV:Value->Option V
 | .none=>some .non
 | .bool b=>some (.bl b)
 | .int i _=>some (.int i)
 | .str x _=>some (.str x)
 | .bytes b _=>some (.byt b)
 | .float b _=>some (.flt b)
 | .ref a=>some (.ref a)
 | .type n=>some (.ty n)
 | _=>none
theorem RelV.abs {x:V}{u:Value} (r:RelV x u):absV u=some x:=by
 cases x with
 | non=>cases r;rfl
 | bl _=>cases r;rfl
 | int _=>obtain⟨t,rfl⟩:=r;rfl
 | str _=>obtain⟨t,rfl⟩:=r;rfl
 | byt _=>obtain⟨t,rfl⟩:=r;rfl
 | flt _=>obtain⟨t,rfl⟩:=r;rfl
 | ref _=>cases r;rfl
 | ty _=>cases r;rfl
theorem RelV.inj {x y:V}{u:Value} (r:RelV x u) (q:RelV y u):x=y:=Option.some.inj (r.abs.symm.trans q.abs)
theorem Vals.inj:∀ {xs ys:List V}{us:List Value},Vals xs us->Vals ys us->xs=ys
 | _,_,_,.nil,.nil=>rfl
 | _,_,_,.cons r t,.cons r' t'=>by rw[r.inj r',Vals.inj t t']
section
variable {X:Cx}{pins:List (Addr×Obj)}{σ:St}{H:Hp}{s:Shared}{a:Addr}{xs ys:List V}
theorem SqL.of {K:PySem.W.Frag} (h:H a=some (.lst xs)):SqL K H a xs:=.inl (.inl h)
theorem SqT.of {K:PySem.W.Frag} (h:H a=some (.tup xs)):SqT K H a xs:=.inl (.inl h)
theorem Inv.list (I:Inv X pins σ H s) (h:SqL X.K H a xs):∃ its:List Value,Vals xs its/\PlainL s.heap a its.toArray/\xs.length<=sizeLine:=by
 rcases h with h | ⟨o,its,n,hk,hc,hd,hs,hz,r⟩
 ·obtain⟨z,its,n,r,e⟩:=h.ok I.hok
  exact⟨its,r,⟨_,n,e,rfl,rfl,rfl⟩,z⟩
 ·refine⟨its.toList,r,⟨o,n,I.kIn a o hk,hc,hd,by simpa using hs⟩,?_⟩
  have e:=r.length
  simp only[Array.length_toList] at e
  omega
theorem Inv.tuple (I:Inv X pins σ H s) (h:SqT X.K H a xs):∃ its:List Value,Vals xs its/\IsTup s.heap a its.toArray/\xs.length<=sizeLine:=by
 rcases h with h | ⟨o,its,n,hk,hc,hs,hz,r⟩
 ·obtain⟨z,its,r,p⟩:=h.ok I.hok
  exact⟨its,r,p,z⟩
 ·refine⟨its.toList,r,⟨o,I.kIn a o hk,hc,n,by simpa using hs⟩,?_⟩
  have e:=r.length
  simp only[Array.length_toList] at e
  omega
theorem Inv.list_inj (I:Inv X pins σ H s) (h:SqL X.K H a xs) (h':SqL X.K H a ys):xs=ys:=by
 obtain⟨its,r,⟨o,n,e,_,_,d⟩,_⟩:=I.list h
 obtain⟨its',r',⟨o',n',e',_,_,d'⟩,_⟩:=I.list h'
 rw[e] at e';cases e'
 rw[d] at d'
 injection d' with d1 _
 have:its=its':=by simpa using congrArg Array.toList d1
 subst this
 exact r.inj r'
theorem Inv.tuple_inj (I:Inv X pins σ H s) (h:SqT X.K H a xs) (h':SqT X.K H a ys):xs=ys:=by
 obtain⟨its,r,⟨o,e,_,n,d⟩,_⟩:=I.tuple h
 obtain⟨its',r',⟨o',e',_,n',d'⟩,_⟩:=I.tuple h'
 rw[e] at e';cases e'
 rw[d] at d'
 injection d' with d1 _
 have:its=its':=by simpa using congrArg Array.toList d1
 subst this
 exact r.inj r'
end
noncomputable abbrev Cx.wish (X:Cx) (E:Value->Shared->Prop):Cx:={X with xe:=E}
noncomputable abbrev Cx.nox (X:Cx):Cx:=X.wish λ _ _=>False
theorem Cx.Ok.wish {X:Cx} (ok:X.Ok) (E:Value->Shared->Prop):(X.wish E).Ok :=
 ⟨ok.mod,ok.kind,ok.glob,ok.blt,ok.above,ok.inj,ok.has,ok.cab,ok.hd,ok.frames,ok.stk,ok.exf,ok.bs,ok.bsz,ok.noex,ok.exfs,ok.funs,ok.frf⟩
theorem Cx.Ok.unwish {X:Cx}{E:Value->Shared->Prop} (ok:(X.wish E).Ok):X.Ok :=
 ⟨ok.mod,ok.kind,ok.glob,ok.blt,ok.above,ok.inj,ok.has,ok.cab,ok.hd,ok.frames,ok.stk,ok.exf,ok.bs,ok.bsz,ok.noex,ok.exfs,ok.funs,ok.frf⟩
section
variable {X:Cx}{pins:List (Addr×Obj)}{σ:St}{H:Hp}{s:Shared}{E:Value->Shared->Prop}
theorem Inv.wish (I:Inv X pins σ H s) (E:Value->Shared->Prop):Inv (X.wish E) pins σ H s:=⟨I.ok.wish E,I.os,I.bare,I.base,I.loc,I.cell,I.free,I.freeC,I.pin,I.hok,I.len⟩
theorem Inv.unwish (I:Inv (X.wish E) pins σ H s):Inv X pins σ H s:=⟨I.ok.unwish,I.os,I.bare,I.base,I.loc,I.cell,I.free,I.freeC,I.pin,I.hok,I.len⟩
theorem SP.unwish {D:Ends}{f:Flow}{s':Shared} (h:SP (X.wish E) pins D f s'):SP X pins D f s':=by
 cases f with
 | next=>obtain⟨σ',H',I,q⟩:=h;exact⟨σ',H',I.unwish,q⟩
 | brk=>obtain⟨σ',H',I,q⟩:=h;exact⟨σ',H',I.unwish,q⟩
 | cont=>obtain⟨σ',H',I,q⟩:=h;exact⟨σ',H',I.unwish,q⟩
 | ret u=>obtain⟨v,σ',H',I,r,q⟩:=h;exact⟨v,σ',H',I.unwish,r,q⟩
theorem PE.nox {e:Expr}{t:TE} (h:PE X.nox e t):PE X e t:=λ pins s σ H Q I hw =>
 wpAny_mono (h pins s σ H Q (I.wish _) hw) (λ _ _ ⟨v,H',I',r,q⟩=>⟨v,H',I'.unwish,r,q⟩) λ _ _ z=>False.elim z
theorem PT.nox {e:Expr}{t:TT} (h:PT X.nox e t):PT X e t:=λ pins s σ H Q I hw =>
 wpAny_mono (h pins s σ H Q (I.wish _) hw) (λ _ _ ⟨H',I',q⟩=>⟨H',I'.unwish,q⟩) λ _ _ z=>False.elim z
theorem PSs.nox {st:List Stmt}{t:TS} (h:PSs X.nox st t):PSs X st t:=λ pins s σ H D I hw =>
 wpAny_mono (h pins s σ H D (I.wish _) hw) (λ _ _ q=>q.unwish) λ _ _ z=>False.elim z
end
section
variable {X:Cx}{st:Stmt}{rest:List Stmt}{t u:TS}{e:Expr}{te:TE}{pos:Pos}
noncomputable def tNext:TS:=λ D σ H=>D.nx σ H
noncomputable def tSeq (t u:TS):TS:=λ D σ H=>t {D with nx:=u D} σ H
theorem pss_nil:PSs X [] tNext:=λ _ _ σ H _ I h=>wpAny_execs_nil ⟨σ,H,I,h⟩
theorem pss_cons (h1:PS X st t) (h2:PSs X rest u):PSs X (st::rest) (tSeq t u):=by
 intro pins s σ H D I h
 refine wpAny_execs_cons (thn (h1 pins s σ H {D with nx:=u D} I h) λ f s1 q=>?_)
 cases f with
 | next =>
  obtain⟨σ',H',I',q⟩:=q
  exact h2 pins s1 σ' H' D I' q
 | ret v=>exact q
 | brk=>exact q
 | cont=>exact q
theorem pss_one (h1:PS X st t):PSs X [st] t:=by
 intro pins s σ H D I h
 refine wpAny_execs_cons (thn (h1 pins s σ H D I h) λ f s1 q=>?_)
 cases f with
 | next=>exact wpAny_execs_nil q
 | ret v=>exact q
 | brk=>exact q
 | cont=>exact q
theorem Inv.quiet {pins:List (Addr×Obj)}{σ:St}{H:Hp}{s:Shared} (I:Inv X pins σ H s):interactive X.env=false:=by simp [interactive,I.ok.kind]
noncomputable def tDrop (te:TE):TS:=λ D σ H=>te σ H λ _ H1=>D.nx σ H1
theorem ps_expr (he:PE X e te) (hs:swapsWith e none pos.line X.env=pure false:=by rfl):PS X (.Expr e pos) (tDrop te):=by
 intro pins s σ H D I h
 exact wpAny_Expr_any (thn (he pins s σ H _ I h) λ v s1 ⟨x,H1,I1,r1,q1⟩=>⟨σ,H1,I1,q1⟩) I.quiet hs
noncomputable def tRet (te:TE):TS:=λ D σ H=>te σ H D.rt
theorem ps_ret (he:PE X e te):PS X (.Return (some e) pos) (tRet te):=by
 intro pins s σ H D I h
 exact wpAny_Return_some (thn (he pins s σ H _ I h) λ v s1 ⟨x,H1,I1,r1,q1⟩=>⟨x,σ,H1,I1,r1,q1⟩)
noncomputable def tIfS (c:TT) (t u:TS):TS:=λ D σ H=>c σ H λ b H1=>if b=true then t D σ H1 else u D σ H1
theorem ps_if {c:Expr}{a b:List Stmt}{tc:TT} (hc:PT X c tc) (ha:PSs X a t) (hb:PSs X b u):PS X (.If c a b pos) (tIfS tc t u):=by
 intro pins s σ H D I h
 refine wpAny_If (thn (hc pins s σ H _ I h) λ d s1 ⟨H1,I1,q1⟩=>?_)
 cases d with
 | true=>exact ha pins s1 σ H1 D I1 q1
 | false=>exact hb pins s1 σ H1 D I1 q1
end
noncomputable abbrev TG:=V->St->Hp->(St->Hp->Prop)->Prop
noncomputable abbrev TGs:=List V->St->Hp->(St->Hp->Prop)->Prop
noncomputable def PG (X:Cx) (target:Expr) (t:TG):Prop :=
 ∀ (pins:List (Addr×Obj)) (s:Shared) (σ:St) (H:Hp) (v:V) (u:Value) (Q:St->Hp->Prop),Inv X pins σ H s->RelV v u->t v σ H Q ->
  wpAny (model X.prog X.w) X.A (assign target X.env u) (λ _ s'=>∃ σ' H',Inv X pins σ' H' s'/\Q σ' H') X.xe s
noncomputable def PGs (X:Cx) (ts:List Expr) (t:TGs):Prop :=
 ∀ (pins:List (Addr×Obj)) (s:Shared) (σ:St) (H:Hp) (vs:List V) (us:List Value) (Q:St->Hp->Prop),Inv X pins σ H s->Vals vs us->t vs σ H Q ->
  wpAny (model X.prog X.w) X.A (assignInOrder ((assignEach ts X.env).map (·.2)) us) (λ _ s'=>∃ σ' H',Inv X pins σ' H' s'/\Q σ' H') X.xe s
section
variable {X:Cx}{pos:Pos}
noncomputable def gName (i:Nat):TG:=λ v σ H Q=>Q (σ.set i (some v)) H
theorem pg_name {i:Nat}{x:Str} (hN:X.N.Nodup) (hi:X.N[i]? = some x) (hx:Loc X.env.scope x) (hf:X.fn x=true∨X.env.scope.names.lookup x=some .local:=by first | exact .inl rfl | exact .inr rfl | assumption):PG X (.Name x pos) (gName i):=by
 intro pins s σ H v u Q I r h
 exact wpAny_assign_Name (store_ok I hN hi hx r (λ s' I'=>⟨_,H,I',h⟩) hf)
noncomputable def gNil:TGs:=λ vs σ H Q=>vs = []/\Q σ H
noncomputable def gCons (t:TG) (u:TGs):TGs:=λ vs σ H Q=>∃ v r,vs=v::r/\t v σ H λ σ' H'=>u r σ' H' Q
theorem pgs_nil:PGs X [] gNil:=by
 intro pins s σ H vs us Q I r h
 obtain⟨e,h⟩:=h
 subst e
 cases r
 exact assignInOrder_nil ⟨σ,H,I,h⟩
theorem pgs_cons {e:Expr}{es:List Expr}{t:TG}{u:TGs} (h1:PG X e t) (h2:PGs X es u)
  (hs:(assignEach (e::es) X.env).map (·.2)=assign e X.env::(assignEach es X.env).map (·.2):=by rfl):PGs X (e::es) (gCons t u):=by
 intro pins s σ H vs us Q I r h
 obtain⟨v,vr,e1,h⟩:=h
 subst e1
 cases r with
 | cons r rr =>
  rw[hs]
  refine assignInOrder_cons (thn (h1 pins s σ H _ _ _ I r h) λ _ s1 ⟨σ1,H1,I1,q1⟩=>?_)
  exact h2 pins s1 σ1 H1 _ _ Q I1 rr q1
noncomputable def gTup (K:PySem.W.Frag) (n:Nat) (t:TGs):TG:=λ v σ H Q=>∃ a xs,v=.ref a/\SqT K H a xs/\xs.length=n/\t xs σ H Q
theorem pg_tup {es:List Expr}{k:Nat}{t:TGs}{n:Nat} (hc:X.calm=true) (h:PGs X es t)
  (hn:(assignEach es X.env).length=n:=by rfl) (hst:(assignEach es X.env).findIdx? (·.1)=none:=by rfl):PG X (.Tuple es k pos) (gTup X.K n t):=by
 intro pins s σ H v u Q I r hw
 obtain⟨a,xs,e1,hq,hl,hw⟩:=hw
 subst e1
 cases r
 obtain⟨its,rv,ht,hz⟩:=I.tuple hq
 refine assign_Tuple_tuple (I.ok.hd hc) ht (by simp [hn,<-hl,rv.length]) hst λ h' hx=>?_
 have I1:Inv X pins σ H {s with heap:=h'}:=I.kept (t':=s.toks) λ b o e=>hx b o (Nat.ne_of_lt (Heap.lt_size e)) e
 exact h pins _ σ H xs _ Q I1 (by simpa using rv) hw
noncomputable def tAsg (te:TE) (g:TG):TS:=λ D σ H=>te σ H λ x H1=>g x σ H1 D.nx
theorem ps_asg {tg e:Expr}{te:TE}{g:TG} (he:PE X e te) (hg:PG X tg g) (hs:swapsWithSole [tg] e pos.line X.env=pure false:=by rfl) (hw:swappedStores [tg] e X.env=pure none:=by rfl)
  (h1:(assignEach [tg] X.env).map (·.2) = [assign tg X.env]:=by rfl):PS X (.Assign [tg] e pos) (tAsg te g):=by
 intro pins s σ H D I h
 refine wpAny_Assign_stores (thn (he pins s σ H _ I h) λ v s1 ⟨x,H1,I1,r1,q1⟩=>?_) hs hw
 rw[h1]
 exact thn (hg pins s1 σ H1 x v _ I1 r1 q1) λ _ s2 q=>q
theorem ps_set {i:Nat}{x:Str}{e:Expr}{te:TE}{pos':Pos} (hN:X.N.Nodup) (hi:X.N[i]? = some x) (hx:Loc X.env.scope x) (he:PE X e te) (hs:swapsWith e (some (.Name x pos')) pos.line X.env=pure false:=by rfl) (hf:X.fn x=true∨X.env.scope.names.lookup x=some .local:=by first | exact .inl rfl | exact .inr rfl | assumption) :
  PS X (.Assign [.Name x pos'] e pos) (tAsg te (gName i)):=by
 intro pins s σ H D I h
 refine wpAny_Assign_Name (thn (he pins s σ H _ I h) λ v s1 ⟨y,H1,I1,r1,q1⟩=>?_) hs
 exact store_ok I1 hN hi hx r1 (λ s2 I2=>⟨_,H1,I2,q1⟩) hf
end
section
variable {X:Cx}{pos:Pos}
noncomputable def tWhile (c:TT) (tb:TS):TS:=λ D σ H=>∃ W:Nat->St->Hp->Prop,(∃ m,W m σ H)/\∀ m σ H,W m σ H ->
 c σ H λ b H1=>if b=true then ∃ N:St->Hp->Prop,(∀ σ' H',N σ' H'->∃ m',m'<m/\W m' σ' H')/\tb {D with nx:=N,ct:=N,bk:=D.nx} σ H1 else D.nx σ H1
theorem ps_while {c:Expr}{body:List Stmt}{tc:TT}{tb:TS} (hp:PassesOwn (model X.prog X.w) X.A X.env X.xe) (hc:PT X c tc) (hb:PSs X body tb):PS X (.While c body [] pos) (tWhile tc tb):=by
 intro pins s σ H D I h
 obtain⟨W,⟨m0,w0⟩,turn⟩:=h
 refine wpAny_While (codeAny_whileLoop (λ n s'=>∃ σ' H',Inv X pins σ' H' s'/\W n σ' H') ?_ m0 ⟨σ,H,I,w0⟩)
 rintro n s1 ⟨σ1,H1,I1,w1⟩
 refine wpAny_passesOwn hp (thn (hc pins s1 σ1 H1 _ I1 (turn n σ1 H1 w1)) λ b s2 ⟨H2,I2,q2⟩=>?_)
 cases b with
 | true =>
  obtain⟨N,hN,q2⟩:=q2
  rw[if_pos rfl]
  refine wpAny_passesOwn hp (thn (hb pins s2 σ1 H2 _ I2 q2) λ f s3 q3=>?_)
  cases f with
  | next =>
   obtain⟨σ3,H3,I3,n3⟩:=q3
   obtain⟨m',hm,w3⟩:=hN σ3 H3 n3
   exact⟨m',hm,σ3,H3,I3,w3⟩
  | cont =>
   obtain⟨σ3,H3,I3,n3⟩:=q3
   obtain⟨m',hm,w3⟩:=hN σ3 H3 n3
   exact⟨m',hm,σ3,H3,I3,w3⟩
  | brk=>exact q3
  | ret v=>exact q3
 | false =>
  rw[if_neg Bool.false_ne_true]
  exact wpAny_execs_nil ⟨σ1,H2,I2,q2⟩
end
structure It where
 go:Nat->Hp->Prop
 yld:Nat->Hp->V->Hp->Prop
 stop:Nat->Hp->Prop
noncomputable def FpOk (X:Cx) (pins:List (Addr×Obj)) (H:Hp) (b:Addr):Prop :=
 H b=none/\b≠X.env.locals/\b ∉ X.fs/\(b∈X.ex∨X.s₀.heap.objs.size<=b)/\(∀ x c,X.env.cells.lookup x=some c->c≠b)/\∀ p∈X.pn++pins,p.1≠b
theorem Inv.fpOk {X:Cx}{pins:List (Addr×Obj)}{σ:St}{H H':Hp}{s:Shared}{b:Addr} (I:Inv X pins σ H s) (hb:s.heap.objs.size<=b) (hn:H' b=none):FpOk X pins H' b:=by
 refine⟨hn,Nat.ne_of_gt (Nat.lt_of_lt_of_le I.lt hb),I.nofs hb,.inr (Nat.le_trans I.sz hb),λ x c e z=>?_,λ p hp z=>?_⟩
 ·obtain⟨v,q⟩:=I.cell x c e
  exact absurd (Nat.lt_of_lt_of_le q.lt (by rw[z];exact hb)) (Nat.lt_irrefl _)
 ·exact absurd (Nat.lt_of_lt_of_le (Heap.lt_size (I.pin p hp).1) (by rw[z];exact hb)) (Nat.lt_irrefl _)
structure Turn (P:Program) (w:World) (K:PySem.W.Frag) (tg:Expr) (J:It) (fp:List Addr) (it:Addr) (tn:Nat->Heap->Prop):Prop where
 mem:it∈fp
 obj:∀ i h,tn i h->∀ b∈fp,∃ o,h.get? b=some o/\∀ v,o.data≠.cell v
 keep:∀ i h h',tn i h->(∀ b∈fp,∀ o,h.get? b=some o->h'.get? b=some o)->tn i h'
 item:∀ (X:Cx),X.prog=P->X.w=w->X.K=K->X.calm=true->∀ (i:Nat) (pins:List (Addr×Obj)) (s:Shared) (σ:St) (H:Hp) (E:Value->Shared->Prop),Inv X pins σ H s->(∀ b∈fp,FpOk X pins H b)->tn i s.heap->J.go i H ->
  wpAny (model P w) X.A (pyNext (.ref it)) (λ r s1=>∃ u,r=some u /\
   wpAny (model P w) X.A (letOwnedTupleGo tg (.ref it) u) (λ _ s2=>∃ x H',Inv X pins σ H' s2/\RelV x u/\J.yld i H x H'/\tn (i+1) s2.heap/\∀ b∈fp,H' b=none) E s1) E s
 done:∀ (X:Cx),X.prog=P->X.w=w->X.K=K->X.calm=true->∀ (i:Nat) (pins:List (Addr×Obj)) (s:Shared) (σ:St) (H:Hp) (E:Value->Shared->Prop),Inv X pins σ H s->(∀ b∈fp,FpOk X pins H b)->tn i s.heap->J.stop i H ->
  wpAny (model P w) X.A (pyNext (.ref it)) (λ r s1=>r=none/\Inv X pins σ H s1) E s
 self:∀ (A:Around) (i:Nat) (s:Shared) (Q:Value->Shared->Prop) (E:Value->Shared->Prop),tn i s.heap->Q (.ref it) s->wpAny (model P w) A (pyIter (.ref it)) Q E s
noncomputable abbrev TI:=St->Hp->(It->Hp->Prop)->Prop
noncomputable def PIE (X:Cx) (pins:List (Addr×Obj)) (σ:St) (tg:Expr) (R:It->Hp->Prop) (itv:Value) (s2:Shared):Prop :=
 ∃ (it:Addr) (fp:List Addr) (tn:Nat->Heap->Prop) (J:It) (H':Hp),itv=.ref it/\Inv X pins σ H' s2/\Turn X.prog X.w X.K tg J fp it tn/\tn 0 s2.heap/\(∀ b∈fp,FpOk X pins H' b)/\R J H'
noncomputable def PI (X:Cx) (tg iter:Expr) (wi:TI):Prop :=
 ∀ (pins:List (Addr×Obj)) (s:Shared) (σ:St) (H:Hp) (R:It->Hp->Prop),Inv X pins σ H s->wi σ H R ->
  wpAny (model X.prog X.w) X.A (eval iter X.env) (λ v s1=>wpAny (model X.prog X.w) X.A (pyIter v) (PIE X pins σ tg R) X.xe s1) X.xe s
theorem go_of {M:Model}{A:Around}{E:Value->Shared->Prop}{s:Shared}{tg:Expr}{it:Addr}{u:Value}{o:Obj}{n:String}{vs:Array Value}{Q:Unit->Shared->Prop} (ho:s.heap.get? it=some o) (hc:o.cls=.type n) (hd:o.data=.fields vs)
  (hn:["enumerate","zip","dict_itemiterator","dict_reverseitemiterator","odict_iterator","itertools.zip_longest","itertools.pairwise"].contains n=false) (hQ:Q () s):wpAny M A (letOwnedTupleGo tg (.ref it) u) Q E s:=by
 unfold letOwnedTupleGo
 cases tg<;>first
  | exact wpAny_pure hQ
  | (cases u<;>first
    | exact wpAny_pure hQ
    | (refine wpAny_bind (wpAny_load ho ?_)
       rw [hc, hd]
       show wpAny M A (if (["enumerate", "zip", "dict_itemiterator", "dict_reverseitemiterator", "odict_iterator", "itertools.zip_longest", "itertools.pairwise"].contains n && vs[0]? == some (rawInt _)) = true then _ else _) Q E s
       rw [if_neg (by intro h; rw [hn, Bool.false_and] at h; cases h)]
       exact wpAny_pure hQ))
noncomputable def Itl (K:PySem.W.Frag) (a:Addr):It :=
 ⟨λ i H=>∃ xs x,SqL K H a xs/\xs[i]? = some x,λ i H x H'=>H'=H/\∀ xs,SqL K H a xs->xs[i]? = some x,λ i H=>∃ xs,SqL K H a xs/\xs.length<=i⟩
noncomputable def Itt (K:PySem.W.Frag) (a:Addr):It :=
 ⟨λ i H=>∃ xs x,SqT K H a xs/\xs[i]? = some x,λ i H x H'=>H'=H/\∀ xs,SqT K H a xs->xs[i]? = some x,λ i H=>∃ xs,SqT K H a xs/\xs.length<=i⟩
noncomputable def Itr (lo:Int) (n:Nat):It:=⟨λ i _=>i<n,λ i H x H'=>H'=H/\x=.int (lo+i),λ i _=>n<=i⟩
theorem turn_list {P:Program}{w:World}{K:PySem.W.Frag}{tg:Expr} (a it:Addr):Turn P w K tg (Itl K a) [it] it (λ i h=>h.IsListIter it a i) where
 mem:=by simp
 obj:=λ i h st b hb=>by
  have e:b=it:=by simpa using hb
  subst e
  obtain⟨o,e,c,d⟩:=st
  exact⟨o,e,λ v z=>by rw[d] at z;cases z⟩
 keep:=λ i h h' st k=>st.at λ o e=>k it (by simp) o e
 item:=by
  intro X hP hw hK hc i pins s σ H E I hf st hg
  subst hP hw hK
  obtain⟨xs,x,hq,hx⟩:=hg
  obtain⟨its,rv,p,hz⟩:=I.list hq
  obtain⟨u,hu,ru⟩:=rv.get hx
  obtain⟨f0,f1,f2,f3,f4,f5⟩:=hf it (by simp)
  refine wpAny_pyNext_list_item st p.isList (x:=u) (by simpa using hu) λ h' st' sb=>?_
  have I1:Inv X pins σ H {s with heap:=h'}:=I.turned (t':=s.toks) (λ b o hb e=>(sb.2 b hb).trans e) f0 f1 f3 f4 f5
  obtain⟨o,e,c,d⟩:=id st'
  exact⟨u,rfl,go_of (s:={s with heap:=h'}) e c d (by decide) ⟨x,H,I1,ru,⟨rfl,λ ys hy=>by rw[I.list_inj hy hq];exact hx⟩,st',λ b hb=>(hf b hb).1⟩⟩
 done:=by
  intro X hP hw hK hc i pins s σ H E I hf st hg
  subst hP hw hK
  obtain⟨xs,hq,hx⟩:=hg
  obtain⟨its,rv,p,hz⟩:=I.list hq
  obtain⟨f0,f1,f2,f3,f4,f5⟩:=hf it (by simp)
  have hl:=rv.length
  exact wpAny_pyNext_list_end (I.ok.hd hc) st p.isList (by simp;omega) λ h' eb=>⟨rfl,I.turned (t':=s.toks) (λ b o hb e=>eb b o hb e) f0 f1 f3 f4 f5⟩
 self:=λ _ _ _ _ _ st h=>wpAny_pyIter_listiter st h
theorem turn_tuple {P:Program}{w:World}{K:PySem.W.Frag}{tg:Expr} (a it:Addr):Turn P w K tg (Itt K a) [it] it (λ i h=>h.IsTupleIter it a i) where
 mem:=by simp
 obj:=λ i h st b hb=>by
  have e:b=it:=by simpa using hb
  subst e
  obtain⟨o,e,c,d⟩:=st
  exact⟨o,e,λ v z=>by rw[d] at z;cases z⟩
 keep:=λ i h h' st k=>st.at λ o e=>k it (by simp) o e
 item:=by
  intro X hP hw hK hc i pins s σ H E I hf st hg
  subst hP hw hK
  obtain⟨xs,x,hq,hx⟩:=hg
  obtain⟨its,rv,p,hz⟩:=I.tuple hq
  obtain⟨u,hu,ru⟩:=rv.get hx
  obtain⟨f0,f1,f2,f3,f4,f5⟩:=hf it (by simp)
  refine wpAny_pyNext_tuple_item st (show s.heap.IsTuple a its.toArray from p) (x:=u) (by simpa using hu) λ h' st' sb=>?_
  have I1:Inv X pins σ H {s with heap:=h'}:=I.turned (t':=s.toks) (λ b o hb e=>(sb.2 b hb).trans e) f0 f1 f3 f4 f5
  obtain⟨o,e,c,d⟩:=id st'
  exact⟨u,rfl,go_of (s:={s with heap:=h'}) e c d (by decide) ⟨x,H,I1,ru,⟨rfl,λ ys hy=>by rw[I.tuple_inj hy hq];exact hx⟩,st',λ b hb=>(hf b hb).1⟩⟩
 done:=by
  intro X hP hw hK hc i pins s σ H E I hf st hg
  subst hP hw hK
  obtain⟨xs,hq,hx⟩:=hg
  obtain⟨its,rv,p,hz⟩:=I.tuple hq
  obtain⟨f0,f1,f2,f3,f4,f5⟩:=hf it (by simp)
  have hl:=rv.length
  exact wpAny_pyNext_tuple_end (I.ok.hd hc) st (show s.heap.IsTuple a its.toArray from p) (by simp;omega) λ h' eb=>⟨rfl,I.turned (t':=s.toks) (λ b o hb e=>eb b o hb e) f0 f1 f3 f4 f5⟩
 self:=λ _ _ _ _ _ st h=>wpAny_pyIter_tupleiter st h
theorem turn_range {P:Program}{w:World}{K:PySem.W.Frag}{tg:Expr} (it:Addr) (lo:Int) (n:Nat):Turn P w K tg (Itr lo n) [it] it (λ i h=>IsRangeIter h it (lo+(i:Nat)*1) ((n:Int)-(i:Nat)) 1) where
 mem:=by simp
 obj:=λ i h st b hb=>by
  have e:b=it:=by simpa using hb
  subst e
  exact⟨_,st,λ v z=>by
   have z':Data.fields _=Data.cell v:=z
   cases z'⟩
 keep:=λ i h h' st k=>k it (by simp) _ st
 item:=by
  intro X hP hw hK hc i pins s σ H E I hf st hg
  subst hP hw hK
  obtain⟨f0,f1,f2,f3,f4,f5⟩:=hf it (by simp)
  have W:=Walks.range (prog:=X.prog) (w:=X.w) (I.ok.hd hc) it lo 1 n
  refine W.item i s _ _ hg st λ v h' tk hv st' kk=>?_
  obtain⟨t,rfl⟩:=hv
  have I1:Inv X pins σ H {s with heap:=h',toks:=tk}:=I.turned (λ b o hb e=>kk b o (by simpa using hb) e) f0 f1 f3 f4 f5
  refine⟨_,rfl,go_of (s:={s with heap:=h',toks:=tk}) (n:="range_iterator") st' rfl rfl (by decide) ⟨.int (lo+i),H,I1,⟨t,?_⟩,⟨rfl,rfl⟩,st',λ b hb=>(hf b hb).1⟩⟩
  rw[Int.mul_one]
 done:=by
  intro X hP hw hK hc i pins s σ H E I hf st hg
  subst hP hw hK
  obtain⟨f0,f1,f2,f3,f4,f5⟩:=hf it (by simp)
  exact wpAny_pyNext_range_end (I.ok.hd hc) st (by have:n<=i:=hg;omega) λ h' eb=>⟨rfl,I.turned (t':=s.toks) (λ b o hb e=>eb b o hb e) f0 f1 f3 f4 f5⟩
 self:=λ _ _ _ _ _ st h=>wpAny_pyIter_rangeiter st h
end L2
namespace L2
open PySem PySem.Spec PyProof.Rows
section
variable {X:Cx}{tg:Expr}
noncomputable def iList (K:PySem.W.Frag) (tl:TE):TI:=λ σ H R=>tl σ H λ x H1=>∃ a,x=.ref a/\(∃ xs,SqL K H1 a xs)/\R (Itl K a) H1
noncomputable def iTup (K:PySem.W.Frag) (tl:TE):TI:=λ σ H R=>tl σ H λ x H1=>∃ a,x=.ref a/\(∃ xs,SqT K H1 a xs)/\R (Itt K a) H1
theorem pi_list {l:Expr}{tl:TE} (hl:PE X l tl):PI X tg l (iList X.K tl):=by
 intro pins s σ H R I h
 refine thn (hl pins s σ H _ I h) λ v s1 ⟨x,H1,I1,r1,q1⟩=>?_
 obtain⟨a,e,⟨xs,hq⟩,q⟩:=q1
 subst e
 cases r1
 obtain⟨its,rv,p,hz⟩:=I1.list hq
 refine wpAny_pyIter_list p.isList ?_
 refine⟨s1.heap.objs.size,[s1.heap.objs.size],_,_,H1,rfl,I1.kept (t':=s1.toks) λ b o e=>Heap.get?_push_of_some _ e,turn_list a _,⟨_,Heap.get?_push_size _ rfl,rfl,rfl⟩,λ b hb=>?_,q⟩
 have e:b=s1.heap.objs.size:=by simpa using hb
 subst e
 exact I1.fpOk (Nat.le_refl _) (I1.hok.fresh (Nat.le_refl _))
theorem pi_tup {l:Expr}{tl:TE} (hl:PE X l tl):PI X tg l (iTup X.K tl):=by
 intro pins s σ H R I h
 refine thn (hl pins s σ H _ I h) λ v s1 ⟨x,H1,I1,r1,q1⟩=>?_
 obtain⟨a,e,⟨xs,hq⟩,q⟩:=q1
 subst e
 cases r1
 obtain⟨its,rv,p,hz⟩:=I1.tuple hq
 refine wpAny_pyIter_tuple (show s1.heap.IsTuple a its.toArray from p) ?_
 refine⟨s1.heap.objs.size,[s1.heap.objs.size],_,_,H1,rfl,I1.kept (t':=s1.toks) λ b o e=>Heap.get?_push_of_some _ e,turn_tuple a _,⟨_,Heap.get?_push_size _ rfl,rfl,rfl⟩,λ b hb=>?_,q⟩
 have e:b=s1.heap.objs.size:=by simpa using hb
 subst e
 exact I1.fpOk (Nat.le_refl _) (I1.hok.fresh (Nat.le_refl _))
theorem range_it {pins:List (Addr×Obj)}{σ:St}{H:Hp}{s:Shared}{R:It->Hp->Prop}{E:Value->Shared->Prop}{lo hi:Int}{t u v:Tok}{tk:Nat} (I:Inv X pins σ H s) (h1:-(2^62)<=lo) (h2:lo<2^62) (h3:-(2^62)<=hi) (h4:hi<2^62)
  (q:R (Itr lo (hi-lo).toNat) H):wpAny (model X.prog X.w) X.A (pyIter (.ref s.heap.objs.size)) (PIE X pins σ tg R) E {s with heap:=s.heap.push {cls:=.type "range",data:=.fields #[.int lo t,.int hi u,.int 1 v]},toks:=tk}:=by
 refine wpAny_pyIter_range (IsRange.new ..) (small_one h1 h2 h3 h4) ?_
 have I1:Inv X pins σ H {s with heap:=s.heap.push {cls:=.type "range",data:=.fields #[.int lo t,.int hi u,.int 1 v]},toks:=tk}:=I.kept λ b o e=>Heap.get?_push_of_some _ e
 refine⟨(s.heap.push {cls:=.type "range",data:=.fields #[.int lo t,.int hi u,.int 1 v]}).objs.size,[(s.heap.push {cls:=.type "range",data:=.fields #[.int lo t,.int hi u,.int 1 v]}).objs.size],_,_,H,rfl,
  I1.kept (t':=tk) λ b o e=>Heap.get?_push_of_some _ e,turn_range _ lo (hi-lo).toNat,?_,λ b hb=>?_,q⟩
 ·have e1:lo+((0:Nat):Int)*1=lo:=by simp
  have e2:(((hi-lo).toNat:Nat):Int)-((0:Nat):Int)=Builtin.Range.rangeSize lo hi 1:=by rw[rangeSize_one];split<;>omega
  show IsRangeIter _ _ (lo+((0:Nat):Int)*1) ((((hi-lo).toNat:Nat):Int)-((0:Nat):Int)) 1
  rw[e1,e2]
  exact Heap.get?_push_size _ rfl
 ·have e:b=(s.heap.push {cls:=.type "range",data:=.fields #[.int lo t,.int hi u,.int 1 v]}).objs.size:=by simpa using hb
  subst e
  exact I1.fpOk (Nat.le_refl _) (I1.hok.fresh (Nat.le_refl _))
noncomputable def iRng1 (ta:TA):TI:=λ σ H R=>ta σ H λ vs H1=>∃ j:Int,vs = [.int j]/\-(2^62)<=j/\j<2^62/\R (Itr 0 j.toNat) H1
noncomputable def iRng2 (ta:TA):TI:=λ σ H R=>ta σ H λ vs H1=>∃ i j:Int,vs = [.int i,.int j]/\(-(2^62)<=i/\i<2^62/\-(2^62)<=j/\j<2^62)/\R (Itr i (j-i).toNat) H1
theorem pi_range1 {a:Expr}{ta:TA}{p pos:Pos} (hg:Gl X "range") (hm:X.mg "range" = none) (ha:PA X [a] ta) (hs:starEach [a] X.env = [(false,eval a X.env)]:=by rfl):PI X tg (.Call (.Name "range" p) [a] [] pos) (iRng1 ta):=by
 intro pins s σ H R I h
 refine Call_ (ld_blt I hg hm boot_range (PyProof.Rows.callWith_type1 (thn (ha pos pins s σ H _ I h) λ us s1 ⟨vs,H1,I1,r1,q1⟩=>?_) hs rfl))
 obtain⟨j,e,q1,q2,q⟩:=q1
 subst e
 cases r1 with
 | cons r rr =>
  cases rr
  obtain⟨t,rfl⟩:=r
  exact call_range_1 (range_it I1 (by omega) (by omega) q1 q2 (by simpa using q))
theorem pi_range2 {a b:Expr}{ta:TA}{p pos:Pos} (hg:Gl X "range") (hm:X.mg "range" = none) (ha:PA X [a,b] ta) (hs:starEach [a,b] X.env = [(false,eval a X.env),(false,eval b X.env)]:=by rfl) (hs2:starEach [b] X.env = [(false,eval b X.env)]:=by rfl) :
  PI X tg (.Call (.Name "range" p) [a,b] [] pos) (iRng2 ta):=by
 intro pins s σ H R I h
 refine Call_ (ld_blt I hg hm boot_range (PyProof.Rows.callWith_type1 (thn (ha pos pins s σ H _ I h) λ us s1 ⟨vs,H1,I1,r1,q1⟩=>?_) (by rw[hs,hs2]) (by rw[hs2];rfl)))
 obtain⟨i,j,e,⟨q1,q2,q3,q4⟩,q⟩:=q1
 subst e
 cases r1 with
 | cons r rr =>
  cases rr with
  | cons r' rr =>
   cases rr
   obtain⟨t,rfl⟩:=r
   obtain⟨t',rfl⟩:=r'
   exact call_range_2 (range_it I1 q1 q2 q3 q4 q)
noncomputable def tFor (wi:TI) (g:TG) (tb:TS):TS:=λ D σ H=>wi σ H λ J H1=>∃ W:Nat->Nat->St->Hp->Prop,(∃ m,W 0 m σ H1)/\∀ i m σ H,W i m σ H ->
 (J.stop i H/\D.nx σ H)∨(J.go i H/\∃ N:St->Hp->Prop,(∀ σ' H',N σ' H'->∃ m',m'<m/\W (i+1) m' σ' H')/\∀ x H',J.yld i H x H'->g x σ H' λ σ2 H2=>tb {D with nx:=N,ct:=N,bk:=D.nx} σ2 H2)
noncomputable def pinsAt (fp:List Addr) (h:Heap):List (Addr×Obj):=fp.filterMap λ b=>(h.get? b).map λ o=>(b,o)
theorem mem_pinsAt {fp:List Addr}{h:Heap}{b:Addr}{o:Obj} (hb:b∈fp) (e:h.get? b=some o):(b,o)∈pinsAt fp h:=List.mem_filterMap.mpr ⟨b,hb,by rw[e];rfl⟩
theorem of_pinsAt {fp:List Addr}{h:Heap}{p:Addr×Obj} (hp:p∈pinsAt fp h):p.1∈fp/\h.get? p.1=some p.2:=by
 obtain⟨b,hb,e⟩:=List.mem_filterMap.mp hp
 cases q:h.get? b with
 | none=>rw[q] at e;cases e
 | some o =>
  rw[q] at e
  have e':(b,o)=p:=Option.some.inj e
  subst e'
  exact⟨hb,q⟩
theorem Inv.pinned {pins:List (Addr×Obj)}{σ:St}{H:Hp}{s:Shared}{fp:List Addr} (I:Inv X pins σ H s) (hf:∀ b∈fp,FpOk X pins H b) (ho:∀ b∈fp,∃ o,s.heap.get? b=some o/\∀ v,o.data≠.cell v):Inv X (pins++pinsAt fp s.heap) σ H s :=
 I.pins_of λ p hp=>(List.mem_append.mp hp).elim (λ z=>I.pin p (List.mem_append_right _ z)) λ z=>by
  obtain⟨hb,e⟩:=of_pinsAt z
  obtain⟨f0,f1,f2,_⟩:=hf p.1 hb
  obtain⟨o,e',d⟩:=ho p.1 hb
  rw[e] at e';cases e'
  exact⟨e,f0,f1,f2,d⟩
theorem Inv.unpinned {pins pl:List (Addr×Obj)}{σ:St}{H:Hp}{s:Shared} (I:Inv X (pins++pl) σ H s):Inv X pins σ H s:=I.pins_of λ p hp=>I.pin p (List.mem_append_right _ (List.mem_append_left _ hp))
theorem ps_for {iter:Expr}{body:List Stmt}{wi:TI}{g:TG}{tb:TS}{pos:Pos} (hp:PassesOwn (model X.prog X.w) X.A X.env X.xe) (hc:X.calm=true) (hi:PI X tg iter wi) (hg:PG X tg g) (hb:PSs X body tb)
  (hs:∀ x,foldedSetIterable iter X.env x=pure x:=by intro _;rfl):PS X (.For tg iter body [] pos) (tFor wi g tb):=by
 intro pins s σ H D I h
 refine wpAny_For (thn (hi pins s σ H _ I h) λ v s1 h1=>thn h1 λ itv s2 h2=>?_) hs
 obtain⟨it,fp,tn,J,H2,e,I2,T,st2,f2,W,⟨m0,w0⟩,turn⟩:=h2
 subst e
 have stat:∀ {H':Hp},(∀ b∈fp,H' b=none)->∀ b∈fp,FpOk X pins H' b:=λ hn b hb=>⟨hn b hb,(f2 b hb).2⟩
 refine codeAny_forLoop_any (λ n s'=>∃ i σ' H',Inv X pins σ' H' s'/\tn i s'.heap/\(∀ b∈fp,H' b=none)/\W i n σ' H') ?_ m0 ⟨0,σ,H2,I2,st2,λ b hb=>(f2 b hb).1,w0⟩
 rintro n s3 ⟨i,σ3,H3,I3,st3,fr3,w3⟩
 rcases turn i n σ3 H3 w3 with ⟨stop,qn⟩ | ⟨go,N,hN,step⟩
 ·refine wpAny_passesOwn hp (thn (T.done X rfl rfl rfl hc i pins s3 σ3 H3 X.xe I3 (stat fr3) st3 stop) λ r s4 ⟨hr,I4⟩=>?_)
  subst hr
  exact wpAny_execs_nil ⟨σ3,H3,I4,qn⟩
 ·refine wpAny_passesOwn hp (thn (T.item X rfl rfl rfl hc i pins s3 σ3 H3 X.xe I3 (stat fr3) st3 go) λ r s4 ⟨u,hr,h4⟩=>?_)
  subst hr
  refine wpAny_passesOwn hp (thn h4 λ _ s5 ⟨x,H5,I5,r5,y5,st5,fr5⟩=>?_)
  have I5':=I5.pinned (stat fr5) (T.obj _ _ st5)
  refine wpAny_passesOwn hp (thn (hg _ s5 σ3 H5 x u _ I5' r5 (step x H5 y5)) λ _ s6 ⟨σ6,H6,I6,q6⟩=>?_)
  refine wpAny_passesOwn hp (thn (hb _ s6 σ6 H6 _ I6 q6) λ f s7 q7=>?_)
  have again:∀ {σ7:St}{H7:Hp},Inv X (pins++pinsAt fp s5.heap) σ7 H7 s7->N σ7 H7->∃ m,m<n/\∃ i σ' H',Inv X pins σ' H' s7/\tn i s7.heap/\(∀ b∈fp,H' b=none)/\W i m σ' H':=λ {σ7 H7} I7 n7=>by
   obtain⟨m',hm,w7⟩:=hN σ7 H7 n7
   refine⟨m',hm,i+1,σ7,H7,I7.unpinned,T.keep _ _ _ st5 λ b hb o e=>(I7.pin (b,o) (List.mem_append_right _ (List.mem_append_right _ (mem_pinsAt hb e)))).1,λ b hb=>?_,w7⟩
   obtain⟨o,e,d⟩:=T.obj _ _ st5 b hb
   exact (I7.pin (b,o) (List.mem_append_right _ (List.mem_append_right _ (mem_pinsAt hb e)))).2.1
  cases f with
  | next=>obtain⟨σ7,H7,I7,n7⟩:=q7;exact again I7 n7
  | cont=>obtain⟨σ7,H7,I7,n7⟩:=q7;exact again I7 n7
  | brk=>obtain⟨σ7,H7,I7,q7⟩:=q7;exact⟨σ7,H7,I7.unpinned,q7⟩
  | ret v=>obtain⟨x7,σ7,H7,I7,r7,q7⟩:=q7;exact⟨x7,σ7,H7,I7.unpinned,r7,q7⟩
end
theorem for_list {K:PySem.W.Frag}{a:Addr}{xs:List V}{g:TG}{tb:TS}{D:Ends}{σ:St}{H:Hp} (Pv:Nat->St->Hp->Prop) (h0:Pv 0 σ H) (hl:∀ i σ H,i<=xs.length->Pv i σ H->SqL K H a xs)
  (hs:∀ i x σ H,xs[i]? = some x->Pv i σ H->g x σ H λ σ2 H2=>tb {D with nx:=Pv (i+1),ct:=Pv (i+1),bk:=D.nx} σ2 H2) (hd:∀ σ H,Pv xs.length σ H->D.nx σ H) :
  ∃ W:Nat->Nat->St->Hp->Prop,(∃ m,W 0 m σ H)/\∀ i m σ H,W i m σ H ->
   ((Itl K a).stop i H/\D.nx σ H)∨((Itl K a).go i H/\∃ N:St->Hp->Prop,(∀ σ' H',N σ' H'->∃ m',m'<m/\W (i+1) m' σ' H')/\∀ x H',(Itl K a).yld i H x H'->g x σ H' λ σ2 H2=>tb {D with nx:=N,ct:=N,bk:=D.nx} σ2 H2):=by
 refine⟨λ i m σ H=>m=xs.length-i/\i<=xs.length/\Pv i σ H,⟨xs.length,by simp,Nat.zero_le _,h0⟩,?_⟩
 rintro i m σ H ⟨rfl,hi,p⟩
 have q:=hl i σ H hi p
 by_cases hlt:i<xs.length
 ·refine .inr ⟨⟨xs,xs[i],q,by simp [hlt]⟩,Pv (i+1),λ σ' H' p'=>⟨xs.length-(i+1),by omega,rfl,hlt,p'⟩,λ x H' y=>?_⟩
  obtain⟨e,y⟩:=y
  subst e
  exact hs i x σ _ (y xs q) p
 ·have e:i=xs.length:=by omega
  subst e
  exact .inl ⟨⟨xs,q,Nat.le_refl _⟩,hd σ H p⟩
theorem for_tup {K:PySem.W.Frag}{a:Addr}{xs:List V}{g:TG}{tb:TS}{D:Ends}{σ:St}{H:Hp} (Pv:Nat->St->Hp->Prop) (h0:Pv 0 σ H) (hl:∀ i σ H,i<=xs.length->Pv i σ H->SqT K H a xs)
  (hs:∀ i x σ H,xs[i]? = some x->Pv i σ H->g x σ H λ σ2 H2=>tb {D with nx:=Pv (i+1),ct:=Pv (i+1),bk:=D.nx} σ2 H2) (hd:∀ σ H,Pv xs.length σ H->D.nx σ H) :
  ∃ W:Nat->Nat->St->Hp->Prop,(∃ m,W 0 m σ H)/\∀ i m σ H,W i m σ H ->
   ((Itt K a).stop i H/\D.nx σ H)∨((Itt K a).go i H/\∃ N:St->Hp->Prop,(∀ σ' H',N σ' H'->∃ m',m'<m/\W (i+1) m' σ' H')/\∀ x H',(Itt K a).yld i H x H'->g x σ H' λ σ2 H2=>tb {D with nx:=N,ct:=N,bk:=D.nx} σ2 H2):=by
 refine⟨λ i m σ H=>m=xs.length-i/\i<=xs.length/\Pv i σ H,⟨xs.length,by simp,Nat.zero_le _,h0⟩,?_⟩
 rintro i m σ H ⟨rfl,hi,p⟩
 have q:=hl i σ H hi p
 by_cases hlt:i<xs.length
 ·refine .inr ⟨⟨xs,xs[i],q,by simp [hlt]⟩,Pv (i+1),λ σ' H' p'=>⟨xs.length-(i+1),by omega,rfl,hlt,p'⟩,λ x H' y=>?_⟩
  obtain⟨e,y⟩:=y
  subst e
  exact hs i x σ _ (y xs q) p
 ·have e:i=xs.length:=by omega
  subst e
  exact .inl ⟨⟨xs,q,Nat.le_refl _⟩,hd σ H p⟩
theorem for_range {lo:Int}{n:Nat}{g:TG}{tb:TS}{D:Ends}{σ:St}{H:Hp} (Pv:Nat->St->Hp->Prop) (h0:Pv 0 σ H)
  (hs:∀ i σ H,i<n->Pv i σ H->g (.int (lo+i)) σ H λ σ2 H2=>tb {D with nx:=Pv (i+1),ct:=Pv (i+1),bk:=D.nx} σ2 H2) (hd:∀ σ H,Pv n σ H->D.nx σ H) :
  ∃ W:Nat->Nat->St->Hp->Prop,(∃ m,W 0 m σ H)/\∀ i m σ H,W i m σ H ->
   ((Itr lo n).stop i H/\D.nx σ H)∨((Itr lo n).go i H/\∃ N:St->Hp->Prop,(∀ σ' H',N σ' H'->∃ m',m'<m/\W (i+1) m' σ' H')/\∀ x H',(Itr lo n).yld i H x H'->g x σ H' λ σ2 H2=>tb {D with nx:=N,ct:=N,bk:=D.nx} σ2 H2):=by
 refine⟨λ i m σ H=>m=n-i/\i<=n/\Pv i σ H,⟨n,by simp,Nat.zero_le _,h0⟩,?_⟩
 rintro i m σ H ⟨rfl,hi,p⟩
 by_cases hlt:i<n
 ·refine .inr ⟨hlt,Pv (i+1),λ σ' H' p'=>⟨n-(i+1),by omega,rfl,hlt,p'⟩,λ x H' y=>?_⟩
  obtain⟨e,y⟩:=y
  subst e y
  exact hs i σ _ hlt p
 ·have e:i=n:=by omega
  subst e
  exact .inl ⟨Nat.le_refl _,hd σ H p⟩
theorem while_by {c:TT}{tb:TS}{D:Ends}{σ:St}{H:Hp} (Pv:St->Hp->Prop) (μ:St->Hp->Nat) (h0:Pv σ H)
  (hs:∀ σ H,Pv σ H->c σ H λ b H1=>if b=true then tb {D with nx:=λ σ' H'=>Pv σ' H'/\μ σ' H' < μ σ H,ct:=λ σ' H'=>Pv σ' H'/\μ σ' H' < μ σ H,bk:=D.nx} σ H1 else D.nx σ H1)
  (mono:∀ σ H Q Q',(∀ b H1,Q b H1->Q' b H1)->c σ H Q->c σ H Q'):tWhile c tb D σ H:=by
 refine⟨λ m σ H=>m = μ σ H/\Pv σ H,⟨_,rfl,h0⟩,?_⟩
 rintro m σ H ⟨rfl,p⟩
 refine mono σ H _ _ (λ b H1 q=>?_) (hs σ H p)
 cases b with
 | true=>exact⟨_,λ σ' H' ⟨p',l⟩=>⟨_,l,rfl,p'⟩,q⟩
 | false=>exact q
end L2
namespace L2
open PySem PySem.Spec PyProof.Rows
noncomputable abbrev R2:=V->V->Hp->VK->Prop
noncomputable def OpR (X:Cx) (f:Value->Value->Sem Value) (r:R2):Prop :=
 ∀ (pins:List (Addr×Obj)) (s:Shared) (σ:St) (H:Hp) (x y:V) (v u:Value) (Q:VK),Inv X pins σ H s->RelV x v->RelV y u->r x y H Q ->
  wpAny (model X.prog X.w) X.A (f v u) (EP X pins σ Q) X.xe s
noncomputable def UnR (X:Cx) (f:Value->Sem Value) (r:V->Hp->VK->Prop):Prop :=
 ∀ (pins:List (Addr×Obj)) (s:Shared) (σ:St) (H:Hp) (x:V) (v:Value) (Q:VK),Inv X pins σ H s->RelV x v->r x H Q ->
  wpAny (model X.prog X.w) X.A (f v) (EP X pins σ Q) X.xe s
noncomputable def CallR (X:Cx) (f:Value) (r:List V->Hp->VK->Prop):Prop :=
 ∀ (pins:List (Addr×Obj)) (s:Shared) (σ:St) (H:Hp) (xs:List V) (us:List Value) (Q:VK),Inv X pins σ H s->Vals xs us->r xs H Q ->
  wpAny (model X.prog X.w) X.A (call f us) (EP X pins σ Q) X.xe s
noncomputable def tOp (r:R2) (ta tb:TE):TE:=λ σ H Q=>ta σ H λ x H1=>tb σ H1 λ y H2=>r x y H2 Q
noncomputable def tUn (r:V->Hp->VK->Prop) (ta:TE):TE:=λ σ H Q=>ta σ H λ x H1=>r x H1 Q
noncomputable def rI (C:Int->Int->Prop) (g:Int->Int->V):R2:=λ x y H Q=>∃ i j,x=.int i/\y=.int j/\C i j/\Q (g i j) H
noncomputable def rI0 (g:Int->Int->V):R2:=λ x y H Q=>∃ i j,x=.int i/\y=.int j/\Q (g i j) H
noncomputable def rU (g:Int->V):V->Hp->VK->Prop:=λ x H Q=>∃ i,x=.int i/\Q (g i) H
section
variable {X:Cx}{a b c:Expr}{ta tb tc:TE}{pos:Pos}
theorem binT (ha:PE X a ta) (hb:PE X b tb) {pins:List (Addr×Obj)}{s:Shared}{σ:St}{H:Hp}{R:V->V->Hp->Prop} (I:Inv X pins σ H s)
  (h:ta σ H λ x H1=>tb σ H1 λ y H2=>R x y H2) {Q:Value->Shared->Prop}{f:Value->Value->Sem Value}
  (hf:∀ v u s2 x y H2,Inv X pins σ H2 s2->RelV x v->RelV y u->R x y H2->wpAny (model X.prog X.w) X.A (f v u) Q X.xe s2) :
  wpAny (model X.prog X.w) X.A (eval a X.env) (λ v s₁=>wpAny (model X.prog X.w) X.A (eval b X.env) (λ u s₂=>wpAny (model X.prog X.w) X.A (f v u) Q X.xe s₂) X.xe s₁) X.xe s:=by
 refine thn (ha pins s σ H _ I h) λ v s1 ⟨x,H1,I1,r1,q1⟩=>?_
 refine thn (hb pins s1 σ H1 _ I1 q1) λ u s2 ⟨y,H2,I2,r2,q2⟩=>?_
 exact hf v u s2 x y H2 I2 r1 r2 q2
theorem pe_op {op:Operator}{r:R2} (ho:OpR X (binaryOp op) r) (ha:PE X a ta) (hb:PE X b tb):PE X (.BinOp a op b pos) (tOp r ta tb):=by
 intro pins s σ H Q I h
 exact wpAny_BinOp (binT ha hb I h λ v u s2 x y H2 I2 rx ry q=>ho pins s2 σ H2 x y v u Q I2 rx ry q)
theorem pe_un {op:UnaryOp}{r:V->Hp->VK->Prop} (ho:UnR X (unaryOp op) r) (ha:PE X a ta):PE X (.UnaryOp op a pos) (tUn r ta):=by
 intro pins s σ H Q I h
 exact UnaryOp_ (thn (ha pins s σ H _ I h) λ v s1 ⟨x,H1,I1,r1,q1⟩=>ho pins s1 σ H1 x v Q I1 r1 q1)
theorem opI {f:Value->Value->Sem Value}{C:Int->Int->Prop}{g:Int->Int->Int}
  (rule:∀ (i j:Int) (t u:Tok) (s:Shared) (Q:Value->Shared->Prop) (E:Value->Shared->Prop),C i j->Q (.int (g i j) s.toks) {s with toks:=s.toks+1}->wpAny (model X.prog X.w) X.A (f (.int i t) (.int j u)) Q E s) :
  OpR X f (rI C λ i j=>.int (g i j)):=by
 intro pins s σ H x y v u Q I rx ry h
 obtain⟨i,j,rfl,rfl,hc,q⟩:=h
 obtain⟨t,rfl⟩:=rx
 obtain⟨t',rfl⟩:=ry
 exact rule i j t t' s _ _ hc ⟨.int (g i j),H,I.tok _,⟨_,rfl⟩,q⟩
theorem opI0 {f:Value->Value->Sem Value}{g:Int->Int->Int}
  (rule:∀ (i j:Int) (t u:Tok) (s:Shared) (Q:Value->Shared->Prop) (E:Value->Shared->Prop),Q (.int (g i j) s.toks) {s with toks:=s.toks+1}->wpAny (model X.prog X.w) X.A (f (.int i t) (.int j u)) Q E s) :
  OpR X f (rI0 λ i j=>.int (g i j)):=by
 intro pins s σ H x y v u Q I rx ry h
 obtain⟨i,j,rfl,rfl,q⟩:=h
 obtain⟨t,rfl⟩:=rx
 obtain⟨t',rfl⟩:=ry
 exact rule i j t t' s _ _ ⟨.int (g i j),H,I.tok _,⟨_,rfl⟩,q⟩
theorem opB0 {f:Value->Value->Sem Value}{g:Int->Int->Bool}
  (rule:∀ (i j:Int) (t u:Tok) (s:Shared) (Q:Value->Shared->Prop) (E:Value->Shared->Prop),Q (.bool (g i j)) s->wpAny (model X.prog X.w) X.A (f (.int i t) (.int j u)) Q E s) :
  OpR X f (rI0 λ i j=>.bl (g i j)):=by
 intro pins s σ H x y v u Q I rx ry h
 obtain⟨i,j,rfl,rfl,q⟩:=h
 obtain⟨t,rfl⟩:=rx
 obtain⟨t',rfl⟩:=ry
 exact rule i j t t' s _ _ ⟨.bl (g i j),H,I,rfl,q⟩
noncomputable def CDiv (i j:Int):Prop:=0<j/\j<1073741824
noncomputable def CPow (i j:Int):Prop:=0<=j/\j<=1000000/\i.natAbs<2^64
noncomputable def CMul (i j:Int):Prop:=(-(2^64)<i/\i<2^64)∨(-(2^64)<j/\j<2^64)
theorem CMul.ok {i j:Int} (h:CMul i j):IntMulOk i j:=by
 rcases h with ⟨h1,h2⟩ | ⟨h1,h2⟩
 ·exact .of_left (intBits_le_64 h1 h2)
 ·exact .of_right (intBits_le_64 h1 h2)
theorem op_add:OpR X (binaryOp .Add) (rI0 λ i j=>.int (i+j)):=opI0 λ _ _ _ _ _ _ _ q=>add_int q
theorem op_sub:OpR X (binaryOp .Sub) (rI0 λ i j=>.int (i-j)):=opI0 λ _ _ _ _ _ _ _ q=>sub_int q
theorem op_mul:OpR X (binaryOp .Mult) (rI CMul λ i j=>.int (i*j)):=opI λ _ _ _ _ _ _ _ hc q=>mul_int q hc.ok
theorem op_fdiv:OpR X (binaryOp .FloorDiv) (rI CDiv λ i j=>.int (i / j)):=opI λ i j _ _ _ _ _ hc q=>by
 have h1:(0:Int)<j:=hc.1
 have h2:j<1073741824:=hc.2
 exact floordiv_int (by omega) (by rw[Int.fdiv_eq_ediv_of_nonneg i (by omega)];exact q) (.inl (PyProof.noPylong_small (by omega)))
theorem op_mod:OpR X (binaryOp .Mod) (rI (λ _ j=>0<j) λ i j=>.int (i%j)):=opI λ i j _ _ _ _ _ hc q=>by
 have h1:(0:Int)<j:=hc
 exact mod_int' (by omega) (by rw[Int.fmod_eq_emod_of_nonneg i (by omega)];exact q)
theorem op_pow:OpR X (binaryOp .Pow) (rI CPow λ i j=>.int (i^j.toNat)):=opI λ _ _ _ _ _ _ _ hc q=>pow_int_small hc.1 hc.2.1 hc.2.2 q
theorem unI {f:Value->Sem Value}{g:Int->Int}
  (rule:∀ (i:Int) (t:Tok) (s:Shared) (Q:Value->Shared->Prop) (E:Value->Shared->Prop),Q (.int (g i) s.toks) {s with toks:=s.toks+1}->wpAny (model X.prog X.w) X.A (f (.int i t)) Q E s) :
  UnR X f (rU λ i=>.int (g i)):=by
 intro pins s σ H x v Q I rx h
 obtain⟨i,rfl,q⟩:=h
 obtain⟨t,rfl⟩:=rx
 exact rule i t s _ _ ⟨.int (g i),H,I.tok _,⟨_,rfl⟩,q⟩
theorem un_neg:UnR X (unaryOp .USub) (rU λ i=>.int (-i)):=unI λ _ _ _ _ _ q=>neg_int q
end
noncomputable def scal:V->V->Bool
 | .non,.non=>true | .non,.int _=>true | .int _,.non=>true | .non,.bl _=>true | .bl _,.non=>true | .non,.str _=>true | .str _,.non=>true
 | .int _,.int _=>true | .bl _,.bl _=>true | .str _,.str _=>true | .byt _,.byt _=>true
 | .int _,.str _=>true | .str _,.int _=>true | .bl _,.str _=>true | .str _,.bl _=>true
 | _,_=>false
noncomputable def rEq:R2:=λ x y H Q=>scal x y=true/\Q (.bl (decide (x=y))) H
noncomputable def rNe:R2:=λ x y H Q=>scal x y=true/\Q (.bl (!decide (x=y))) H
theorem dec_int {i j:Int}:decide (V.int i=V.int j)=(i == j):=by
 rw[Bool.eq_iff_iff]
 simp
theorem dec_bl {i j:Bool}:decide (V.bl i=V.bl j)=(i == j):=by
 rw[Bool.eq_iff_iff]
 simp
theorem dec_str {i j:Str}:decide (V.str i=V.str j)=(i == j):=by
 rw[Bool.eq_iff_iff]
 simp
theorem dec_byt {i j:Array UInt8}:decide (V.byt i=V.byt j)=(i.toList == j.toList):=by
 rw[Bool.eq_iff_iff]
 cases i
 cases j
 simp
section
variable {X:Cx}{a b c:Expr}{ta tb tc:TE}{pos:Pos}
theorem fin_bl {pins:List (Addr×Obj)}{σ:St}{H:Hp}{s:Shared}{Q:VK}{k k':Bool} (I:Inv X pins σ H s) (q:Q (.bl k) H) (e:k=k'):EP X pins σ Q (.bool k') s:=by
 subst e
 exact⟨.bl k,H,I,rfl,q⟩
theorem op_eq:OpR X (compareOp .Eq) rEq:=by
 intro pins s σ H x y v u Q I rx ry h
 obtain⟨hs,q⟩:=h
 cases x with
 | non =>
  cases rx
  cases y with
  | non=>cases ry;exact PySem.EqNone.eq_none_none (fin_bl I q (by simp))
  | bl j=>cases ry;exact PySem.EqNone.eq_none_bool (fin_bl I q (by simp))
  | int j=>obtain⟨t',rfl⟩:=ry;exact PySem.EqNone.eq_none_int (fin_bl I q (by simp))
  | str j=>obtain⟨t',rfl⟩:=ry;exact PySem.EqNone.eq_none_str (fin_bl I q (by simp))
  | _=>exact absurd (show false=true from hs) Bool.false_ne_true
 | bl i =>
  cases rx
  cases y with
  | non=>cases ry;exact PySem.EqNone.eq_bool_none (fin_bl I q (by simp))
  | bl j=>cases ry;exact eq_bool (fin_bl I q dec_bl)
  | str j=>obtain⟨t',rfl⟩:=ry;exact PySem.EqMixed.eq_bool_str (fin_bl I q (by simp))
  | _=>exact absurd (show false=true from hs) Bool.false_ne_true
 | int i =>
  obtain⟨t,rfl⟩:=rx
  cases y with
  | non=>cases ry;exact PySem.EqNone.eq_int_none (fin_bl I q (by simp))
  | int j=>obtain⟨t',rfl⟩:=ry;exact eq_int (fin_bl I q dec_int)
  | str j=>obtain⟨t',rfl⟩:=ry;exact PySem.EqMixed.eq_int_str (fin_bl I q (by simp))
  | _=>exact absurd (show false=true from hs) Bool.false_ne_true
 | str i =>
  obtain⟨t,rfl⟩:=rx
  cases y with
  | non=>cases ry;exact PySem.EqNone.eq_str_none (fin_bl I q (by simp))
  | bl j=>cases ry;exact PySem.EqMixed.eq_str_bool (fin_bl I q (by simp))
  | int j=>obtain⟨t',rfl⟩:=ry;exact PySem.EqMixed.eq_str_int (fin_bl I q (by simp))
  | str j=>obtain⟨t',rfl⟩:=ry;exact eq_str (fin_bl I q dec_str)
  | _=>exact absurd (show false=true from hs) Bool.false_ne_true
 | byt i =>
  obtain⟨t,rfl⟩:=rx
  cases y with
  | byt j=>obtain⟨t',rfl⟩:=ry;exact PySem.W.eq_bytes (fin_bl I q dec_byt)
  | _=>exact absurd (show false=true from hs) Bool.false_ne_true
 | _=>cases y<;>exact absurd (show false=true from hs) Bool.false_ne_true
theorem op_ne:OpR X (compareOp .NotEq) rNe:=by
 intro pins s σ H x y v u Q I rx ry h
 obtain⟨hs,q⟩:=h
 cases x with
 | non =>
  cases rx
  cases y with
  | non=>cases ry;exact PySem.EqNone.ne_none_none (fin_bl I q (by simp))
  | bl j=>cases ry;exact PySem.EqNone.ne_none_bool (fin_bl I q (by simp))
  | int j=>obtain⟨t',rfl⟩:=ry;exact PySem.EqNone.ne_none_int (fin_bl I q (by simp))
  | str j=>obtain⟨t',rfl⟩:=ry;exact PySem.EqNone.ne_none_str (fin_bl I q (by simp))
  | _=>exact absurd (show false=true from hs) Bool.false_ne_true
 | bl i =>
  cases rx
  cases y with
  | non=>cases ry;exact PySem.EqNone.ne_bool_none (fin_bl I q (by simp))
  | bl j=>cases ry;exact ne_bool (fin_bl I q (congrArg not dec_bl))
  | str j=>obtain⟨t',rfl⟩:=ry;exact PySem.EqMixed.ne_bool_str (fin_bl I q (by simp))
  | _=>exact absurd (show false=true from hs) Bool.false_ne_true
 | int i =>
  obtain⟨t,rfl⟩:=rx
  cases y with
  | non=>cases ry;exact PySem.EqNone.ne_int_none (fin_bl I q (by simp))
  | int j=>obtain⟨t',rfl⟩:=ry;exact ne_int (fin_bl I q (congrArg not dec_int))
  | str j=>obtain⟨t',rfl⟩:=ry;exact PySem.EqMixed.ne_int_str (fin_bl I q (by simp))
  | _=>exact absurd (show false=true from hs) Bool.false_ne_true
 | str i =>
  obtain⟨t,rfl⟩:=rx
  cases y with
  | non=>cases ry;exact PySem.EqNone.ne_str_none (fin_bl I q (by simp))
  | bl j=>cases ry;exact PySem.EqMixed.ne_str_bool (fin_bl I q (by simp))
  | int j=>obtain⟨t',rfl⟩:=ry;exact PySem.EqMixed.ne_str_int (fin_bl I q (by simp))
  | str j=>obtain⟨t',rfl⟩:=ry;exact ne_str (fin_bl I q (congrArg not dec_str))
  | _=>exact absurd (show false=true from hs) Bool.false_ne_true
 | byt i =>
  obtain⟨t,rfl⟩:=rx
  cases y with
  | byt j=>obtain⟨t',rfl⟩:=ry;exact PySem.W.ne_bytes (fin_bl I q (congrArg not dec_byt))
  | _=>exact absurd (show false=true from hs) Bool.false_ne_true
 | _=>cases y<;>exact absurd (show false=true from hs) Bool.false_ne_true
theorem op_lt:OpR X (compareOp .Lt) (rI0 λ i j=>.bl (decide (i<j))):=opB0 λ _ _ _ _ _ _ _ q=>lt_int q
theorem op_le:OpR X (compareOp .LtE) (rI0 λ i j=>.bl (decide (i<=j))):=opB0 λ _ _ _ _ _ _ _ q=>le_int q
theorem op_gt:OpR X (compareOp .Gt) (rI0 λ i j=>.bl (decide (j<i))):=opB0 λ _ _ _ _ _ _ _ q=>gt_int q
theorem op_ge:OpR X (compareOp .GtE) (rI0 λ i j=>.bl (decide (j<=i))):=opB0 λ _ _ _ _ _ _ _ q=>ge_int q
theorem op_isN:OpR X (compareOp .Is) (λ x y H Q=>y=.non/\Q (.bl (decide (x=.non))) H):=by
 intro pins s σ H x y v u Q I rx ry h
 obtain⟨rfl,q⟩:=h
 cases ry
 refine is_none_gen (fin_bl I q ?_)
 cases x<;>first
  | (cases rx;rfl)
  | (obtain⟨t,rfl⟩:=rx;rfl)
theorem op_notN:OpR X (compareOp .IsNot) (λ x y H Q=>y=.non/\Q (.bl (!decide (x=.non))) H):=by
 intro pins s σ H x y v u Q I rx ry h
 obtain⟨rfl,q⟩:=h
 cases ry
 refine isnot_none_gen (fin_bl I q ?_)
 cases x<;>first
  | (cases rx;rfl)
  | (obtain⟨t,rfl⟩:=rx;rfl)
theorem OpR.or {f:Value->Value->Sem Value}{r r':R2} (h:OpR X f r) (h':OpR X f r'):OpR X f (λ x y H Q=>r x y H Q∨r' x y H Q):=by
 intro pins s σ H x y v u Q I rx ry q
 rcases q with q | q
 ·exact h pins s σ H x y v u Q I rx ry q
 ·exact h' pins s σ H x y v u Q I rx ry q
theorem nomark (b:Expr) {op:CmpOp} (h:op≠.In:=by decide) (h2:op≠.NotIn:=by decide):behindInMarks op b=false:=by
 have e1:(op == CmpOp.In)=false:=by cases op<;>first | rfl | exact absurd rfl h
 have e2:(op == CmpOp.NotIn)=false:=by cases op<;>first | rfl | exact absurd rfl h2
 cases b<;>simp [behindInMarks,e1,e2]
theorem pe_cmpR {op:CmpOp}{r:R2} (ho:OpR X (compareOp op) r) (ha:PE X a ta) (hb:PE X b tb) (hm:behindInMarks op b=false):PE X (.Compare a [op] [b] pos) (tOp r ta tb):=by
 intro pins s σ H Q I h
 exact wpAny_Compare1 (binT ha hb I h λ v u s2 x y H2 I2 rx ry q=>ho pins s2 σ H2 x y v u Q I2 rx ry q) hm
noncomputable def tTest (t:TE):TT:=λ σ H Q=>t σ H λ x H'=>∃ k,x=.bl k/\Q k H'
theorem pt_cmpR {op:CmpOp}{r:R2} (ho:OpR X (compareOp op) r) (ha:PE X a ta) (hb:PE X b tb) (hm:behindInMarks op b=false):PT X (.Compare a [op] [b] pos) (tTest (tOp r ta tb)):=by
 intro pins s σ H Q I h
 refine wpAny_isTrue_Compare1 (thn (ha pins s σ H _ I h) λ v s1 ⟨x,H1,I1,r1,q1⟩=>thn (hb pins s1 σ H1 _ I1 q1) λ u s2 ⟨y,H2,I2,r2,q2⟩ =>
  thn (ho pins s2 σ H2 x y v u _ I2 r1 r2 q2) λ c s3 ⟨z,H3,I3,r3,k,e,q3⟩=>?_) hm
 subst e
 cases r3
 exact wpAny_truthy_bool ⟨H3,I3,q3⟩
noncomputable def tChain (r r':R2) (ta tb tc:TE):TE:=λ σ H Q=>ta σ H λ x H1=>tb σ H1 λ y H2=>r x y H2 λ z H3=>∃ k,z=.bl k /\
 (if k=true then tc σ H3 λ w' H4=>r' y w' H4 Q else Q (.bl false) H3)
theorem pe_chain {op op':CmpOp}{r r':R2} (ho:OpR X (compareOp op) r) (ho':OpR X (compareOp op') r') (ha:PE X a ta) (hb:PE X b tb) (hc:PE X c tc)
  (hm:lastMarks [op,op'] [b,c]=false:=by with_unfolding_all rfl):PE X (.Compare a [op,op'] [b,c] pos) (tChain r r' ta tb tc):=by
 intro pins s σ H Q I h
 refine Compare_chain (thn (ha pins s σ H _ I h) λ v s1 ⟨x,H1,I1,r1,q1⟩=>chain_link (thn (hb pins s1 σ H1 _ I1 q1) λ u s2 ⟨y,H2,I2,r2,q2⟩ =>
  thn (ho pins s2 σ H2 x y v u _ I2 r1 r2 q2) λ d s3 ⟨z,H3,I3,r3,k,e,q3⟩=>?_)) hm
 subst e
 cases r3
 refine wpAny_truthy_bool ?_
 cases k with
 | false=>exact ite_ff ⟨.bl false,H3,I3,rfl,q3⟩
 | true=>exact ite_tt (chain_last (thn (hc pins s3 σ H3 _ I3 q3) λ w' s4 ⟨z',H4,I4,r4,q4⟩=>ho' pins s4 σ H4 y z' u w' Q I4 r2 r4 q4))
theorem line63:(sizeLine:Nat)<2^63:=by rw[sizeLine_eq];decide
theorem vals1 {x:V}{us:List Value} (r:Vals [x] us):∃ u,us = [u]/\RelV x u:=by
 cases r with
 | cons r1 r2=>cases r2;exact⟨_,rfl,r1⟩
theorem vals2 {x y:V}{us:List Value} (r:Vals [x,y] us):∃ u w',us = [u,w']/\RelV x u/\RelV y w':=by
 cases r with
 | cons r1 r2 =>
  cases r2 with
  | cons r3 r4=>cases r4;exact⟨_,_,rfl,r1,r3⟩
theorem call_abs:CallR X (.builtin "abs") (λ xs H Q=>∃ i,xs = [.int i]/\Q (.int (if i<0 then -i else i)) H):=by
 intro pins s σ H xs us Q I r h
 obtain⟨i,rfl,q⟩:=h
 obtain⟨u,rfl,t,rfl⟩:=vals1 r
 exact call_abs_int λ u tk=>⟨.int (if i<0 then -i else i),H,I.tok _,⟨_,rfl⟩,q⟩
theorem call_max2 (hc:X.calm=true):CallR X (.builtin "max") (λ xs H Q=>∃ i j,xs = [.int i,.int j]/\Q (.int (if j>i then j else i)) H):=by
 intro pins s σ H xs us Q I r h
 obtain⟨i,j,rfl,q⟩:=h
 obtain⟨u,w',rfl,⟨t,rfl⟩,⟨t',rfl⟩⟩:=vals2 r
 refine max_two_ints (I.ok.hd hc) λ h' tk k=>⟨_,H,I.kept k,?_,q⟩
 by_cases hj:j>i
 ·rw[if_pos hj,if_pos hj];exact⟨_,rfl⟩
 ·rw[if_neg hj,if_neg hj];exact⟨_,rfl⟩
theorem call_min2 (hc:X.calm=true):CallR X (.builtin "min") (λ xs H Q=>∃ i j,xs = [.int i,.int j]/\Q (.int (if j<i then j else i)) H):=by
 intro pins s σ H xs us Q I r h
 obtain⟨i,j,rfl,q⟩:=h
 obtain⟨u,w',rfl,⟨t,rfl⟩,⟨t',rfl⟩⟩:=vals2 r
 refine min_two_ints (I.ok.hd hc) λ h' tk k=>⟨_,H,I.kept k,?_,q⟩
 by_cases hj:j<i
 ·rw[if_pos hj,if_pos hj];exact⟨_,rfl⟩
 ·rw[if_neg hj,if_neg hj];exact⟨_,rfl⟩
theorem call_int1:CallR X (.type "int") (λ xs H Q=>(∃ i,xs = [.int i]/\Q (.int i) H)∨∃ k,xs = [.bl k]/\Q (.int (if k then 1 else 0)) H):=by
 intro pins s σ H xs us Q I r h
 rcases h with ⟨i,rfl,q⟩ | ⟨k,rfl,q⟩
 ·obtain⟨u,rfl,t,rfl⟩:=vals1 r
  exact call_int_int ⟨.int i,H,I,⟨_,rfl⟩,q⟩
 ·obtain⟨u,rfl,r1⟩:=vals1 r
  cases r1
  exact call_int_bool ⟨.int (if k then 1 else 0),H,I.tok _,⟨_,rfl⟩,q⟩
end
end L2
namespace L2
open PySem PySem.Spec PyProof.Rows
structure ObjM (h:Heap) (x dx C:Addr) (mA:Str->Option Value):Prop where
 obj:h.get? x=some (PySem.W.instObj C dx)
 ns:h.Ns1 dx mA
 ne:dx≠x
theorem lookIn_ns {h:Heap}{dx:Addr}{mA:Str->Option Value} (n:h.Ns1 dx mA):∃ od,h.get? dx=some od/\∀ name,PySem.W.lookIn name od=some (mA name):=by
 obtain⟨o,es,ep,ho,hd,hk,_,hm⟩:=n
 refine⟨o,ho,λ name=>?_⟩
 have e:=hm name
 unfold nsFind findBy at e
 rw[<-Array.find?_toList] at e
 unfold PySem.W.lookIn
 rw[hd]
 dsimp only
 split
 ·rename_i y q
  rw[q] at e
  exact congrArg some e
 ·rename_i q
  rw[q] at e
  have a:es.toList.any (·.refKey)=false:=by
   rw[List.any_eq_false]
   intro y hy
   obtain⟨z,t,hkey⟩:=hk y (Array.mem_toList_iff.mp hy)
   simp [DictEntry.refKey,hkey]
  have a':¬ es.toList.any (·.refKey)=true:=by rw[a];exact Bool.false_ne_true
  rw[if_neg a']
  exact congrArg some e
theorem ObjM.look {h:Heap}{x dx C:Addr}{mA:Str->Option Value} (I:ObjM h x dx C mA):∃ od,PySem.W.InstAt h x (PySem.W.instObj C dx) C (some od)/\∀ name,PySem.W.lookIn name od=some (mA name) :=
 let ⟨od,ho,hl⟩:=lookIn_ns I.ns
 ⟨od,⟨I.obj,rfl,rfl,ho⟩,hl⟩
section
variable {prog:Program}{w:World}{A:Around}{E:Value->Shared->Prop}{s:Shared}{K:PySem.W.Frag}{x dx C f:Addr}{mA:Str->Option Value}{name:Str}{v:Value}
end
theorem RelO.some_of {v:V}{o:Option Value} (r:RelO (some v) o):∃ u,o=some u/\RelV v u:=by
 cases o with
 | none=>exact (show False from r).elim
 | some u=>exact⟨u,rfl,r⟩
theorem handed_of {v:V}{u:Value} (r:RelV v u):PySem.W.handedIn u=true:=by
 cases v with
 | non=>cases (show u=Value.none from r);rfl
 | bl b=>cases (show u=Value.bool b from r);rfl
 | int i=>obtain⟨t,e⟩:=(show ∃ t,u=Value.int i t from r);cases e;rfl
 | str x=>obtain⟨t,e⟩:=(show ∃ t,u=Value.str x t from r);cases e;rfl
 | byt b=>obtain⟨t,e⟩:=(show ∃ t,u=Value.bytes b t from r);cases e;rfl
 | flt b=>obtain⟨t,e⟩:=(show ∃ t,u=Value.float b t from r);cases e;rfl
 | ref a=>cases (show u=Value.ref a from r);rfl
 | ty n=>cases (show u=Value.type n from r);rfl
section
variable {P:Program}{w:World}{H H':Hp}{h h':Heap}{a C dx:Addr}{fs fs':List (Str×V)}
theorem ins_get (hok:HOk P w H h) (e:H a=some (.ins C dx fs)):∃ mA,ObjM h a dx C mA/\(∀ f,RelO (fs.lookup f) (mA f))/\PySem.Within mA (fs.map (·.1))/\fs.length<=1000/\H dx=some (.own a):=by
 obtain⟨d,z,ne,ob,mA,n,r,q⟩:=(show ObjOk P w H h a (.ins C dx fs) from hok a _ e)
 exact⟨mA,⟨ob,n,ne⟩,r,q,z,d⟩
end
structure Cls (K:PySem.W.Frag) (C:Addr):Prop where
 pg:PySem.W.plainGet K C Str.empty=true
 hd:PySem.W.hasDictIn K C=true
 po:PySem.W.plainOver K C=true
 sa:PySem.W.findIn K (.ref C) "__setattr__" = some (some (.builtin "object.__setattr__"))
theorem Cls.get {K:PySem.W.Frag}{C:Addr} (c:Cls K C) (f:Str):PySem.W.plainGet K C f=true:=c.pg
structure Con (K:PySem.W.Frag) (C:Addr) (f:Str) (v:V) (u:Value):Prop where
 at_:PySem.W.findIn K (.ref C) f=some (some u)
 rel:RelV v u
 get:PySem.W.specialIn K u "__get__" = some none
 cp:PySem.W.copiedNames.contains f=false
structure Meth (K:PySem.W.Frag) (C:Addr) (m:Str) (f:Addr):Prop where
 at_:PySem.W.findIn K (.ref C) m=some (some (.ref f))
 fn:PySem.W.isFn K (.ref f)=true
 kp:PySem.W.keepIn K (.ref f)=true
section
variable {X:Cx}{pins:List (Addr×Obj)}{σ:St}{H:Hp}{s:Shared}{a C dx:Addr}{fs:List (Str×V)}{f:Str}{v:V}{A:Around}{E:Value->Shared->Prop}
theorem attr_of {prog:Program}{w:World}{env:Env}{e:Expr}{f:Str}{pos:Pos}{s:Shared}{Q:Value->Shared->Prop} (hb:attributeBase e f env (eval e env)=eval e env)
  (h:wpAny (model prog w) A (eval e env) (λ o s₁=>wpAny (model prog w) A (getAttr o f true) Q E s₁) E s):wpAny (model prog w) A (eval (.Attribute e f pos) env) Q E s :=
 Attribute_any_ h (by rw[arm_eval_Attribute,hb])
end
section
variable {X:Cx}{o e value:Expr}{f:Str}{pos pos' tpos:Pos}{ta tv:TE}
end
section
variable {X:Cx}{pins:List (Addr×Obj)}{σ:St}{H:Hp}{s:Shared}{A:Around}{E:Value->Shared->Prop}{Q:Value->Shared->Prop}{c:Value}{b:Bool}
inductive TyOf (K:PySem.W.Frag) (H:Hp):V->Value->Prop where
 | non:TyOf K H .non (.type "NoneType")
 | bl (x:Bool):TyOf K H (.bl x) (.type "bool")
 | int (i:Int):TyOf K H (.int i) (.type "int")
 | str (x:Str):TyOf K H (.str x) (.type "str")
 | flt (x:UInt64):TyOf K H (.flt x) (.type "float")
 | lst {a:Addr}{xs:List V} (e:H a=some (.lst xs)):TyOf K H (.ref a) (.type "list")
 | frz {a:Addr}{o:Obj}{xs:List V} (e:H a=some (.frz o (.lst xs))):TyOf K H (.ref a) (.type "list")
 | tup {a:Addr}{xs:List V} (e:H a=some (.tup xs)):TyOf K H (.ref a) (.type "tuple")
 | dK {a:Addr}{kvs:List (Key×V)} (e:H a=some (.dK kvs)):TyOf K H (.ref a) (.type "dict")
 | dT {a:Addr}{kvs:List (List Key×V)} (e:H a=some (.dT kvs)):TyOf K H (.ref a) (.type "dict")
 | ins {a C dx:Addr}{fs:List (Str×V)} (e:H a=some (.ins C dx fs)) (cl:Cls K C) (ha:PySem.W.findIn K (.ref C) "__class__" = some (some (.builtin "object.__class__")))
   (hn:PySem.W.specialIn K (.builtin "object.__class__") "__get__" = some (some (.builtin "getset_descriptor.__get__"))) (htk:PySem.W.takesIn K (.builtin "object.__class__")=some true)
   (hm:PySem.W.mroIn K C (.type "object")=some true):TyOf K H (.ref a) (.ref C)
theorem isinst_ok {x:V}{u t:Value} (I:Inv X pins σ H s) (rx:RelV x u) (ty:TyOf X.K H x t) (e:PySem.W.kitOne X.K t c=some b) (h:∀ tk,Q (.bool b) {s with toks:=tk}) :
  wpAny (model X.prog X.w) A (call (.builtin "isinstance") [u,c]) Q E s:=by
 cases ty with
 | non=>cases (show u=Value.none from rx);exact PySem.W.kia_one PySem.W.kitx_none I.kIn True.intro e (λ z=>nomatch z) h
 | bl y=>cases (show u=Value.bool y from rx);exact PySem.W.kia_one PySem.W.kitx_bool I.kIn True.intro e (λ z=>nomatch z) h
 | int i=>obtain⟨t,q⟩:=(show ∃ t,u=Value.int i t from rx);cases q;exact PySem.W.kia_one PySem.W.kitx_int I.kIn True.intro e (λ z=>nomatch z) h
 | str y=>obtain⟨t,q⟩:=(show ∃ t,u=Value.str y t from rx);cases q;exact PySem.W.kia_one PySem.W.kitx_str I.kIn True.intro e (λ z=>nomatch z) h
 | flt y=>obtain⟨t,q⟩:=(show ∃ t,u=Value.float y t from rx);cases q;exact PySem.W.kia_one PySem.W.kitx_float I.kIn True.intro e (λ z=>nomatch z) h
 | @lst a xs ea =>
  cases (show u=Value.ref a from rx)
  obtain⟨_,_,n,_,h1⟩:=(show ObjOk X.prog X.w H s.heap a (.lst xs) from I.hok a _ ea)
  exact PySem.W.kia_one PySem.W.kitx_list I.kIn ⟨_,h1,rfl⟩ e (λ z=>nomatch z) h
 | @frz a ob xs ea =>
  cases (show u=Value.ref a from rx)
  obtain⟨_,_,_,n,_,h1⟩:=(show ObjOk X.prog X.w H s.heap a (.frz ob (.lst xs)) from I.hok a _ ea)
  exact PySem.W.kia_one PySem.W.kitx_list I.kIn ⟨_,h1,rfl⟩ e (λ z=>nomatch z) h
 | @tup a xs ea =>
  cases (show u=Value.ref a from rx)
  obtain⟨_,_,_,p⟩:=(show ObjOk X.prog X.w H s.heap a (.tup xs) from I.hok a _ ea)
  obtain⟨o,h1,h2,_⟩:=p
  exact PySem.W.kia_one PySem.W.kitx_tuple I.kIn ⟨o,h1,h2⟩ e (λ z=>nomatch z) h
 | @dK a kvs ea =>
  cases (show u=Value.ref a from rx)
  obtain⟨_,_,vs,_,p⟩:=(show ObjOk X.prog X.w H s.heap a (.dK kvs) from I.hok a _ ea)
  obtain⟨o,es,ep,h1,h2,_⟩:=p
  exact PySem.W.kia_one PySem.W.kitx_dict I.kIn ⟨o,h1,h2.1⟩ e (λ z=>nomatch z) h
 | @dT a kvs ea =>
  cases (show u=Value.ref a from rx)
  obtain⟨_,_,xs,_,o,es,ep,h1,h2,_⟩:=(show ObjOk X.prog X.w H s.heap a (.dT kvs) from I.hok a _ ea)
  exact PySem.W.kia_one PySem.W.kitx_dict I.kIn ⟨o,h1,h2.1⟩ e (λ z=>nomatch z) h
 | @ins a C dx fs ea cl ha hn htk hm =>
  cases (show u=Value.ref a from rx)
  obtain⟨mA,O,_⟩:=ins_get I.hok ea
  obtain⟨od,J,_⟩:=O.look
  exact PySem.W.kia_one (PySem.W.kitx_own (cl.get _) cl.hd ha hn htk hm) I.kIn J e (λ z=>nomatch z) h
end
end L2
namespace L2
open PySem PySem.Spec PyProof.Rows
structure Room (k:Nat) (A:Around):Prop where
 hd:A.handled=none
 dp:A.depth+3*k+5<recursionLimit
 un:A.units+16*k+200<cLine
theorem Room.mono {j k:Nat}{A:Around} (r:Room k A) (h:j<=k):Room j A:=⟨r.hd,by have:=r.dp;omega,by have:=r.un;omega⟩
theorem Room.deeper {k:Nat}{A:Around} (r:Room (k+1) A) (env:Env):Room k (A.deeper env) :=
 ⟨r.hd,by have:=r.dp;show A.depth+1+3*k+5<_;omega,by have:=r.un;show A.units+3+16*k+200<_;omega⟩
theorem Room.in1 {k:Nat}{A:Around} (r:Room (k+1) A):Room k A.in1 :=
 ⟨r.hd,by have:=r.dp;show A.depth+3*k+5<_;omega,by have:=r.un;show A.units+1+16*k+200<_;omega⟩
theorem make_depth {A:Around}{C:Addr}{us:List Value}{kw:List (Str×Value)}:(A.under (.builtin "type.__call__" ⟨.ref C::us,kw⟩)).depth=A.depth+1:=by
 first | rfl | simp [Around.under,Code.weight,Code.isCreation,Code.isGuard,Code.isCaller,Code.frames,Code.isFrame,guardIds]
theorem make_units {A:Around}{C:Addr}{us:List Value}{kw:List (Str×Value)}:(A.under (.builtin "type.__call__" ⟨.ref C::us,kw⟩)).units=A.units+1:=by
 first | rfl | simp [Around.under,Code.cUnits,Code.frames,Code.isFrame]
theorem Room.make {k:Nat}{A:Around} (r:Room (k+1) A) (C:Addr) (us:List Value) (kw:List (Str×Value)):Room k (A.under (.builtin "type.__call__" ⟨.ref C::us,kw⟩)) :=
 ⟨r.hd,by have:=r.dp;rw[make_depth];omega,by have:=r.un;rw[make_units];omega⟩
theorem Room.depth {k:Nat}{A:Around} (r:Room k A):A.depth<recursionLimit:=by have:=r.dp;omega
theorem Room.units {k:Nat}{A:Around} (r:Room k A):A.units+64<cLine:=by have:=r.un;omega
noncomputable def tNil:TA:=λ _ H Q=>Q [] H
noncomputable def tCons (ta:TE) (tr:TA):TA:=λ σ H Q=>ta σ H λ x H1=>tr σ H1 λ xs H2=>Q (x::xs) H2
section
variable {X:Cx}{e:Expr}{es:List Expr}{te:TE}{t:TA}{pos:Pos}
theorem pa_nil:PA X [] tNil:=λ _ _ _ _ H Q I h=>Calls.spliced_nil ⟨[],H,I,.nil,h⟩
theorem pa_cons (ha:PE X e te) (hr:PA X es t) (hs:starEach (e::es) X.env=(false,eval e X.env)::starEach es X.env:=by rfl):PA X (e::es) (tCons te t):=by
 intro pos pins s σ H Q I h
 rw[hs]
 show wpAny _ _ (spliced ((false,eval e X.env)::backTo pos (starEach es X.env))) _ _ s
 refine Calls.spliced_cons (thn (ha pins s σ H _ I h) λ u s1 ⟨x,H1,I1,r1,q1⟩=>?_)
 exact thn (hr pos pins s1 σ H1 _ I1 q1) λ us s2 ⟨xs,H2,I2,r2,q2⟩=>⟨x::xs,H2,I2,.cons r1 r2,q2⟩
noncomputable def tTup (t:TA):TE:=λ σ H Q=>t σ H λ xs H1=>xs.length<=sizeLine/\∀ p,H1 p=none->Q (.ref p) (upd H1 p (.tup xs))
noncomputable def tLst (t:TA):TE:=λ σ H Q=>t σ H λ xs H1=>xs.length<=sizeLine/\∀ p,H1 p=none->Q (.ref p) (upd H1 p (.lst xs))
theorem pe_tup {x1} (h:PA X es t):PE X (.Tuple es x1 pos) (tTup t):=by
 intro pins s σ H Q I hq
 refine wpAny_Tuple_spliced (thn (h pos pins s σ H _ I hq) λ us s1 ⟨xs,H1,I1,r,z,q⟩=>⟨by rw[<-r.length];exact z,?_⟩)
 have hf:H1 s1.heap.objs.size=none:=I1.hok.fresh (Nat.le_refl _)
 refine⟨.ref s1.heap.objs.size,upd H1 s1.heap.objs.size (.tup xs),I1.laid (t':=s1.toks) (λ b u e=>Heap.get?_push_of_some _ e) (Nat.le_refl _) ?_,rfl,q _ hf⟩
 exact⟨z,us,r,⟨_,Heap.get?_push_size _ rfl,rfl,_,rfl⟩⟩
theorem pe_lst (h:PA X es t):PE X (.List es pos) (tLst t):=by
 intro pins s σ H Q I hq
 refine wpAny_List_spliced (thn (h pos pins s σ H _ I hq) λ us s1 ⟨xs,H1,I1,r,z,q⟩=>⟨by rw[<-r.length];exact z,?_⟩)
 have hf:H1 s1.heap.objs.size=none:=I1.hok.fresh (Nat.le_refl _)
 refine⟨.ref s1.heap.objs.size,upd H1 s1.heap.objs.size (.lst xs),I1.laid (t':=s1.toks) (λ b u e=>Heap.get?_push_of_some _ e) (Nat.le_refl _) ?_,rfl,q _ hf⟩
 exact⟨z,us,0,r,Heap.get?_push_size _ rfl⟩
end
noncomputable abbrev Sp:=List V->Hp->VK->XK->Prop
noncomputable abbrev CXT:=List Env->Hp->Shared->XK->Value->Shared->Prop
structure Env0 (P:Program) (w:World) (K:PySem.W.Frag) (mg:Str->Option Value) (base:Heap) (A:Around) (outer:List Env) (s:Shared) (H:Hp):Prop where
 frames:A.frames=some outer
 mod:Mod K mg base
 bs:∀ b o,base.get? b=some o->s.heap.get? b=some o/\H b=none
 bsz:base.objs.size<=s.heap.objs.size
 funs:s.heap.FunFrames base outer
 frf:∀ b∈frs outer,H b=none
 hok:HOk P w H s.heap
 bare:AllBare s.gens
noncomputable def CE (outer:List Env) (P:Program) (w:World) (H:Hp) (s:Shared) (Q:VK) (u:Value) (s':Shared):Prop :=
 ∃ v H',s'.os=s.os/\AllBare s'.gens/\Un (frs outer) [] H H' s.heap s'.heap/\HOk P w H' s'.heap/\RelV v u/\Q v H'
noncomputable def CR (CX:CXT) (outer:List Env) (P:Program) (w:World) (H:Hp) (s:Shared) (Q:VK) (E:XK) (r:Result) (s':Shared):Prop :=
 match r with
 | .ok (.ret u)=>CE outer P w H s Q u s'
 | .ok _=>False
 | .error e=>CX outer H s E e s'
structure FnOk (P:Program) (w:World) (K:PySem.W.Frag) (mg:Str->Option Value) (base:Heap) (CX:CXT) (k:Nat) (f:Addr) (fd:FuncData) (ps:List Str) (sp:Sp):Prop where
 len:∀ vs H Q E,sp vs H Q E->vs.length=ps.length
 run:∀ (A:Around) (outer:List Env) (s:Shared) (H:Hp) (args:Args) (us:List Value) (vs:List V) (Q:VK) (E:XK),Room k A->Env0 P w K mg base A outer s H->BindsTo s fd args (ps.zip us)->Vals vs us->sp vs H Q E ->
  codeAny (model P w) A (.call (.ref f) args) (CR CX outer P w H s Q E) s
theorem FnOk.mono {P:Program}{w:World}{K:PySem.W.Frag}{mg:Str->Option Value}{base:Heap}{CX:CXT}{j k:Nat}{f:Addr}{fd:FuncData}{ps:List Str}{sp:Sp} (F:FnOk P w K mg base CX j f fd ps sp) (h:j<=k) :
  FnOk P w K mg base CX k f fd ps sp:=⟨F.len,λ A outer s H args us vs Q E hr=>F.run A outer s H args us vs Q E (hr.mono h)⟩
theorem FnOk.imp {P:Program}{w:World}{K:PySem.W.Frag}{mg:Str->Option Value}{base:Heap}{CX:CXT}{k:Nat}{f:Addr}{fd:FuncData}{ps:List Str}{sp sp':Sp} (F:FnOk P w K mg base CX k f fd ps sp)
  (h:∀ vs H Q E,sp' vs H Q E->sp vs H Q E):FnOk P w K mg base CX k f fd ps sp' :=
 ⟨λ vs H Q E q=>F.len vs H Q E (h _ _ _ _ q),λ A outer s H args us vs Q E hr he hb hv hs=>F.run A outer s H args us vs Q E hr he hb hv (h _ _ _ _ hs)⟩
theorem Env0.make {P:Program}{w:World}{K:PySem.W.Frag}{mg:Str->Option Value}{base:Heap}{A:Around}{outer:List Env}{s:Shared}{H:Hp} (e:Env0 P w K mg base A outer s H) (C:Addr) (us:List Value) (kw:List (Str×Value)) :
  Env0 P w K mg base (A.under (.builtin "type.__call__" ⟨.ref C::us,kw⟩)) outer s H:=⟨by first | exact e.frames | (simpa [Around.under,Code.envs,Code.isFrame,pushEnvs] using e.frames),e.mod,e.bs,e.bsz,e.funs,e.frf,e.hok,e.bare⟩
theorem Env0.in1 {P:Program}{w:World}{K:PySem.W.Frag}{mg:Str->Option Value}{base:Heap}{A:Around}{outer:List Env}{s:Shared}{H:Hp} (e:Env0 P w K mg base A outer s H) :
  Env0 P w K mg base A.in1 outer s H:=⟨e.frames,e.mod,e.bs,e.bsz,e.funs,e.frf,e.hok,e.bare⟩
section
variable {X:Cx}{pins:List (Addr×Obj)}{σ:St}{H:Hp}{s s':Shared}
theorem Inv.env0 (I:Inv X pins σ H s):Env0 X.prog X.w X.K X.mg X.base X.A X.stack s H :=
 ⟨I.ok.frames,I.ok.mod,I.bs,Nat.le_trans I.ok.bsz I.sz,I.stack,I.stkFree,I.hok,I.bare⟩
theorem Inv.after {Q:VK}{u:Value} (I:Inv X pins σ H s) (h:CE X.stack X.prog X.w H s Q u s'):EP X pins σ Q u s':=by
 obtain⟨v,H',os,bare,un,hok,r,q⟩:=h
 obtain⟨hh,g,d,t,os'⟩:=s'
 obtain rfl:os'=s.os:=os
 exact⟨v,H',I.call (h':=hh) (g':=g) (d':=d) (t':=t) (ch:=[]) un hok bare (λ b z=>absurd z (by simp)),r,q⟩
end
noncomputable def tCall (sp:Sp) (dvs:List V) (E:XK) (t:TA):TE:=λ σ H Q=>t σ H λ vs H1=>sp (vs++dvs) H1 Q E
noncomputable def Binds (K:PySem.W.Frag) (fd:FuncData) (ps:List Str) (ds:List Value):Prop :=
 ∀ (s:Shared) (us:List Value),K.In s.heap->(us++ds).length=ps.length->BindsTo s fd ⟨us,[]⟩ (ps.zip (us++ds))
theorem Binds.all {K:PySem.W.Frag}{fd:FuncData}{ps:List Str} (h:∀ us:List Value,us.length=ps.length->bindArgs fd ⟨us,[]⟩=pure (ps.zip us)):Binds K fd ps []:=λ s us _ hl=>by
 rw[List.append_nil] at hl ⊢
 exact .of_eq (h us hl)
noncomputable def Passes (CX:CXT) (X:Cx) (E:XK):Prop:=∀ (pins:List (Addr×Obj)) (σ:St) (H:Hp) (s:Shared) (e:Value) (s':Shared),Inv X pins σ H s->CX X.stack H s E e s'->X.xe e s'
section
variable {X:Cx}{CX:CXT}{k:Nat}{f C:Addr}{fd:FuncData}{ps:List Str}{sp:Sp}{dvs:List V}{ds:List Value}{E:XK}{x m:Str}{p pos apos:Pos}{e o:Expr}{es:List Expr}{ta:TE}{t:TA}
theorem run_fn {pins:List (Addr×Obj)}{σ:St}{H:Hp}{s:Shared}{Q:VK}{us:List Value}{vs:List V} (F:FnOk X.prog X.w X.K X.mg X.base CX k f fd ps sp) (hr:Room k X.A) (hb:Binds X.K fd ps ds) (hd:Vals dvs ds) (hx:Passes CX X E)
  (I:Inv X pins σ H s) (r:Vals vs us) (h:sp (vs++dvs) H Q E):wpAny (model X.prog X.w) X.A (call (.ref f) us) (EP X pins σ Q) X.xe s:=by
 have r2:Vals (vs++dvs) (us++ds):=r.append hd
 have hl:(us++ds).length=ps.length:=by rw[<-r2.length];exact F.len _ _ _ _ h
 refine wpAny_call (codeAny_mono (F.run X.A X.stack s H ⟨us,[]⟩ (us++ds) (vs++dvs) Q E hr I.env0 (hb s us I.kIn hl) r2 h) λ r s' hq=>?_)
 cases r with
 | error e=>exact hx pins σ H s e s' I hq
 | ok fl =>
  cases fl with
  | ret u=>exact I.after hq
  | next=>exact False.elim hq
  | brk=>exact False.elim hq
  | cont=>exact False.elim hq
theorem pe_call (F:FnOk X.prog X.w X.K X.mg X.base CX k f fd ps sp) (hr:Room k X.A) (hg:Gl X x) (hm:X.mg x=some (.ref f)) (hk:PySem.W.keepIn X.K (.ref f)=true) (hb:Binds X.K fd ps ds) (hd:Vals dvs ds) (hx:Passes CX X E)
  (ha:PA X (e::es) t) (hdb:(x == ("__debug__":Str))=false:=by decide) (he:starEach (e::es) X.env=(false,eval e X.env)::starEach es X.env:=by rfl) (hpl:(backTo pos (starEach es X.env)).any (·.1)=false:=by rfl) :
  PE X (.Call (.Name x p) (e::es) [] pos) (tCall sp dvs E t):=by
 intro pins s σ H Q I h
 refine wpAny_Call_Name_kw (ld_glob I hg hm ?_ hdb)
 refine PySem.W.callWith_K (h₀:=X.base) I.ok.mod.kin hk (thn (ha pos pins s σ H _ I h) λ us s1 ⟨vs,H1,I1,r,q⟩=>⟨I1.kIn,?_⟩) he hpl
 exact run_fn F hr hb hd hx I1 r q
structure Mk (K:PySem.W.Frag) (C f:Addr):Prop where
 makes:PySem.W.makesIn K C=true
 init:PySem.W.findIn K (.ref C) "__init__" = some (some (.ref f))
 fn:PySem.W.isFn K (.ref f)=true
 kp:PySem.W.keepIn K (.ref C)=true
end
section
variable {X:Cx}{CX:CXT}{k:Nat}{f C:Addr}{fd:FuncData}{ps ks:List Str}{sp:Sp}{E:XK}{x m:Str}{p pos apos kpos:Pos}{e o:Expr}{es:List Expr}{kws:List Keyword}{te ta:TE}{t tk:TA}{nm:Option Str}
structure KBinds (K:PySem.W.Frag) (fd:FuncData) (ps ks:List Str) (g:List Value->List Value->List Value) (gV:List V->List V->List V):Prop where
 to:∀ (s:Shared) (us ws:List Value),K.In s.heap->(g us ws).length=ps.length->BindsTo s fd ⟨us,ks.zip ws⟩ (ps.zip (g us ws))
 rel:∀ {vs:List V}{us:List Value}{zs:List V}{ws:List Value},Vals vs us->Vals zs ws->Vals (gV vs zs) (g us ws)
variable {g:List Value->List Value->List Value}{gV:List V->List V->List V}
end
structure FnScope (N P:List Str) (sc:Scope):Prop where
 kind:sc.kind=.function
 co:sc.isCoroutine=false
 gen:sc.isGenerator=false
 nd:N.Nodup
 pre:N.take P.length=P
 par:∀ x∈P,sc.names.lookup x=some .local∨sc.names.lookup x=some .cell
 nofree:∀ y∈sc.names,y.2≠.free
theorem bindL_out {kindOf:Str->Option NameKind}{x:Str}:∀ {binds:List (Str×Value)}{m:Str->Option Value},(∀ v,(x,v) ∉ binds)->bindL kindOf binds m x=m x
 | [],_,_=>rfl
 | (n,v)::r,m,h=>by
  unfold bindL
  rw[bindL_out λ w hw=>h w (List.mem_cons_of_mem _ hw)]
  split
  ·have:x≠n:=by rintro rfl;exact h v List.mem_cons_self
   simp [this]
  ·rfl
theorem bindC_out {kindOf:Str->Option NameKind}{x:Str}:∀ {binds:List (Str×Value)}{m:Str->Option Value},(∀ v,(x,v) ∉ binds)->bindC kindOf binds m x=m x
 | [],_,_=>rfl
 | (n,v)::r,m,h=>by
  unfold bindC
  rw[bindC_out λ w hw=>h w (List.mem_cons_of_mem _ hw)]
  split
  ·rfl
  ·have:x≠n:=by rintro rfl;exact h v List.mem_cons_self
   simp [this]
theorem bindL_get {kindOf:Str->Option NameKind}{x:Str}{v:Value}:∀ {P:List Str}{vs:List Value}{i:Nat}{m:Str->Option Value},P.Nodup->P[i]? = some x->vs[i]? = some v->kindOf x=some .local ->
  bindL kindOf (P.zip vs) m x=some v
 | [],_,_,_,_,h,_,_=>by simp at h
 | _::_,[],_,_,_,_,h,_=>by simp at h
 | p::P,w::vs,0,m,nd,h1,h2,hk=>by
  simp at h1 h2;subst h1;subst h2
  show bindL kindOf ((p,w)::P.zip vs) m p=_
  unfold bindL
  rw[bindL_out λ v hv=>(List.nodup_cons.mp nd).1 (List.of_mem_zip hv).1,if_pos hk]
  simp
 | p::P,w::vs,i+1,m,nd,h1,h2,hk=>by
  show bindL kindOf ((p,w)::P.zip vs) m x=_
  unfold bindL
  exact bindL_get (i:=i) (List.nodup_cons.mp nd).2 (by simpa using h1) (by simpa using h2) hk
theorem bindC_get {kindOf:Str->Option NameKind}{x:Str}{v:Value}:∀ {P:List Str}{vs:List Value}{i:Nat}{m:Str->Option Value},P.Nodup->P[i]? = some x->vs[i]? = some v->kindOf x≠some .local ->
  bindC kindOf (P.zip vs) m x=some v
 | [],_,_,_,_,h,_,_=>by simp at h
 | _::_,[],_,_,_,_,h,_=>by simp at h
 | p::P,w::vs,0,m,nd,h1,h2,hk=>by
  simp at h1 h2;subst h1;subst h2
  show bindC kindOf ((p,w)::P.zip vs) m p=_
  unfold bindC
  rw[bindC_out λ v hv=>(List.nodup_cons.mp nd).1 (List.of_mem_zip hv).1,if_neg hk]
  simp
 | p::P,w::vs,i+1,m,nd,h1,h2,hk=>by
  show bindC kindOf ((p,w)::P.zip vs) m x=_
  unfold bindC
  exact bindC_get (i:=i) (List.nodup_cons.mp nd).2 (by simpa using h1) (by simpa using h2) hk
noncomputable def start (N:List Str) (vs:List V):St:=vs.map some++List.replicate (N.length-vs.length) none
noncomputable def cxOf (CX:CXT) (P:Program) (w:World) (K:PySem.W.Frag) (mg:Str->Option Value) (base:Heap) (N:List Str) (qual:Str) (scope:Scope) (f:Addr) (cd:Value) (A:Around) (outer:List Env) (s:Shared) (H:Hp) (E:XK):Cx where
 prog:=P
 w:=w
 K:=K
 mg:=mg
 base:=base
 A:=A.deeper (envOfC qual scope s.heap.objs.size f cd)
 N:=N
 s₀:=s
 H₀:=H
 env:=envOfC qual scope s.heap.objs.size f cd
 outer:=outer
 stack:=envOfC qual scope s.heap.objs.size f cd::outer
 ex:=[]
 calm:=true
 fn:=λ _=>true
 pn:=[]
 xe:=λ e s'=>wpAny (model P w) (A.deeper (envOfC qual scope s.heap.objs.size f cd)) (leaving (envOfC qual scope s.heap.objs.size f cd) e) (λ _ s''=>CX outer H s E e s'') (λ e' s''=>CX outer H s E e' s'') s'
theorem cell_has {sc:Scope}{n:Nat}{x:Str} (h:sc.names.lookup x=some .cell):∃ c,(cellsFrom n sc.names []).lookup x=some c:=by
 have q:=PySem.W.cellsFrom_some sc.names n [] (.inl h)
 exact Option.isSome_iff_exists.mp q
theorem inv_start {CX:CXT}{P:Program}{w:World}{K:PySem.W.Frag}{mg:Str->Option Value}{base:Heap}{N ps:List Str}{qual:Str}{scope:Scope}{f:Addr}{cd:Value}{A:Around}{outer:List Env}{s s1:Shared}{H:Hp}{E:XK}{us:List Value}{vs:List V}
  (S:FnScope N ps scope) (hd:A.handled=none) (e0:Env0 P w K mg base A outer s H) (hl:vs.length=ps.length) (r:Vals vs us)
  (x:InCallC s s.heap.objs.size (bindL (envOfC qual scope s.heap.objs.size f cd).kindOf (ps.zip us) λ _=>none) (cellsFrom (s.heap.objs.size+1) scope.names []) (bindC (envOfC qual scope s.heap.objs.size f cd).kindOf (ps.zip us) λ _=>none) s1) :
  Inv (cxOf CX P w K mg base N qual scope f cd A outer s H E) [] (start N vs) H s1:=by
 have hpl:ps.length<=N.length:=by have:=congrArg List.length S.pre;rw[List.length_take] at this;omega
 obtain⟨h1,tk,rfl,hk⟩:=x.done
 have noA:∀ b:Addr,b ∉ (cxOf CX P w K mg base N qual scope f cd A outer s H E).ex:=λ b z=>absurd (show b∈([]:List Addr) from z) (by simp)
 refine⟨⟨e0.mod,S.kind,rfl,rfl,Nat.le_refl _,λ y z c h1 h2=>?_,λ y hy=>?_,λ y c _ h=>?_,λ _=>hd,Around.frames_deeper e0.frames,.inr ⟨rfl,rfl⟩,λ b z=>absurd z (noA b),e0.bs,e0.bsz,λ b _ _=>noA b,λ b z=>absurd z (noA b),e0.funs,e0.frf⟩,
  rfl,e0.bare,Un.kept hk,⟨_,x.toInCall.ns,λ i y v h1 h2 h3=>?_⟩,λ y c h=>⟨_,x.cell y c h⟩,e0.hok.fresh (Nat.le_refl _),λ y c h=>?_,λ p hp=>absurd (show p∈([]:List (Addr×Obj)) from hp) (by simp),e0.hok.kept hk,?_⟩
 ·exact name_of_addr x.apart (PySem.mem_of_lookup h1) (PySem.mem_of_lookup h2)
 ·have hy:scope.names.lookup y=some .cell∨scope.names.lookup y=some .free:=hy
  rcases hy with hy | hy
  ·exact cell_has hy
  ·exact absurd rfl (S.nofree _ (PySem.mem_of_lookup hy))
 ·exact Nat.le_of_lt (x.above y c (PySem.mem_of_lookup h))
 ·have hi:i<vs.length:=by
   unfold start at h2
   by_cases hi:i<vs.length
   ·exact hi
   ·rw[List.getElem?_append_right (by simpa using hi)] at h2
    rw[List.getElem?_replicate] at h2
    split at h2<;>cases h2
  have ha:vs[i]? = some v:=by
   unfold start at h2
   rw[List.getElem?_append_left (by simpa using hi),List.getElem?_map] at h2
   cases e:vs[i]? with
   | none=>rw[e] at h2;cases h2
   | some a=>rw[e] at h2;cases h2;rfl
  obtain⟨u,hu,rv⟩:=r.get ha
  have hp:ps[i]? = some y:=by
   rw[<-S.pre,List.getElem?_take_of_lt (by omega)];exact h1
  have ndP:ps.Nodup:=by rw[<-S.pre];exact S.nd.sublist (List.take_sublist _ _)
  refine⟨u,rv,?_⟩
  rcases S.par y (List.mem_of_getElem? hp) with k | k
  ·exact .inl ⟨k,bindL_get ndP hp hu k⟩
  ·obtain⟨c,e⟩:=cell_has (n:=s.heap.objs.size+1) k
   refine .inr ⟨.inl k,c,e,?_⟩
   have q:=x.cell y c e
   rw[bindC_get ndP hp hu (by show scope.names.lookup y≠_;rw[k];decide)] at q
   exact q
 ·exact e0.hok.fresh (Nat.le_of_lt (x.above y c (PySem.mem_of_lookup h)))
 ·unfold start
  show _=N.length
  rw[List.length_append,List.length_map,List.length_replicate]
  omega
theorem fn_of {CX:CXT}{P:Program}{w:World}{K:PySem.W.Frag}{mg:Str->Option Value}{base:Heap}{k:Nat}{f:Addr}{name qual:Str}{params:Arguments}{body:List Stmt}{scope:Scope}{dV kV doc pm cdv ct oc:Value}{an od:Option Addr}
  {osl:Array (Option Value)}{N ps:List Str}{sp:Sp} (lk:K.lookup f=some ⟨oc,od,.func (PySem.W.fnOf name qual params body scope dV kV doc pm an cdv ct),osl⟩) (hcd:PySem.W.codeIn K cdv qual=true) (S:FnScope N ps scope)
  (len:∀ vs H Q E,sp vs H Q E->vs.length=ps.length)
  (hbody:∀ (A:Around) (outer:List Env) (s:Shared) (H:Hp) (vs:List V) (Q:VK) (E:XK),Room k (A.deeper (envOfC qual scope s.heap.objs.size f cdv))->sp vs H Q E ->
   ∃ t,PSs (cxOf CX P w K mg base N qual scope f cdv A outer s H E) body t/\t {nx:=λ _ H'=>Q .non H',rt:=Q} (start N vs) H) :
  FnOk P w K mg base CX (k+1) f (PySem.W.fnOf name qual params body scope dV kV doc pm an cdv ct) ps sp:=by
 refine⟨len,λ A outer s H args us vs Q E hr e0 hb r hsp=>?_⟩
 have hl:=len _ _ _ _ hsp
 have KX:K.In s.heap:=e0.mod.kin.keeps λ b o e=>(e0.bs b o e).1
 have lim:s.heap.NoLimit:=e0.mod.nolimit.keeps λ b o e=>(e0.bs b o e).1
 have hkind:∀ y∈ps.zip us,scope.names.lookup y.1=some .local∨(scope.names.lookup y.1=some .cell/\((cellsFrom (s.heap.objs.size+1) scope.names []).lookup y.1).isSome=true):=λ ⟨n,v⟩ hy=>by
  rcases S.par n (List.of_mem_zip hy).1 with q | q
  ·exact .inl q
  ·exact .inr ⟨q,PySem.W.cellsFrom_some _ _ _ (.inl q)⟩
 refine codeAny_call_function hr.depth (KX _ _ lk) rfl S.co S.gen rfl (PySem.W.codeRec_of KX hcd) (hb _ _ _ _ ?_)
 refine wpAny_newFunctionEnv_cells S.kind hkind λ env he s1 x=>?_
 subst he
 refine⟨lim.keeps x.toInCall.keep,codeAny_func ?_⟩
 obtain⟨t,ht,hq⟩:=hbody A outer s H vs Q E (hr.deeper _) hsp
 have I:Inv (cxOf CX P w K mg base N qual scope f cdv A outer s H E) [] (start N vs) H s1:=inv_start S hr.hd e0 hl r x
 refine wpAny_mono (ht [] s1 (start N vs) H _ I hq) (λ fl s' hs=>?_) λ e s' hs=>hs
 have fin:∀ {σ':St}{H':Hp}{v:V}{u:Value},Inv (cxOf CX P w K mg base N qual scope f cdv A outer s H E) [] σ' H' s'->RelV v u->Q v H'->CE outer P w H s Q u s' :=
  λ {σ' H' v u} J rv q=>⟨v,H',J.os,J.bare,J.base,J.hok,rv,q⟩
 cases fl with
 | ret u =>
  obtain⟨v,σ',H',J,rv,q⟩:=hs
  exact fin J rv q
 | next =>
  obtain⟨σ',H',J,q⟩:=hs
  exact fin (v:=V.non) (u:=Value.none) J rfl q
 | brk =>
  obtain⟨_,_,_,q⟩:=hs
  exact False.elim q
 | cont =>
  obtain⟨_,_,_,q⟩:=hs
  exact False.elim q
end L2
namespace L2
open PySem PySem.Spec PyProof.Rows
section
variable {X:Cx}{x:Str}{p pos:Pos}{e:Expr}{es:List Expr}{t:TA}{id T:String}{r:List V->Hp->VK->Prop}
noncomputable def tCB (r:List V->Hp->VK->Prop) (t:TA):TE:=λ σ H Q=>t σ H λ vs H1=>r vs H1 Q
theorem pe_callB (hc:CallR X (.builtin id) r) (hg:Gl X x) (hm:X.mg x=none) (hv:bootBuiltins x=some (.builtin id)) (ha:PA X (e::es) t) (hn:x≠"__name__":=by decide) (hdb:(x == ("__debug__":Str))=false:=by decide)
  (he:starEach (e::es) X.env=(false,eval e X.env)::starEach es X.env:=by rfl) (hpl:(backTo pos (starEach es X.env)).any (·.1)=false:=by rfl):PE X (.Call (.Name x p) (e::es) [] pos) (tCB r t):=by
 intro pins s σ H Q I h
 refine wpAny_Call_Name_kw (ld_blt I hg hm hv ?_ hn hdb)
 exact PyProof.Rows.callWith_builtin1 (thn (ha pos pins s σ H _ I h) λ us s1 ⟨vs,H1,I1,r1,q1⟩=>hc pins s1 σ H1 vs us Q I1 r1 q1) he hpl
theorem pe_callTy (hc:CallR X (.type T) r) (hg:Gl X x) (hm:X.mg x=none) (hv:bootBuiltins x=some (.type T)) (ha:PA X (e::es) t) (hn:x≠"__name__":=by decide) (hdb:(x == ("__debug__":Str))=false:=by decide)
  (he:starEach (e::es) X.env=(false,eval e X.env)::starEach es X.env:=by rfl) (hpl:(backTo pos (starEach es X.env)).any (·.1)=false:=by rfl):PE X (.Call (.Name x p) (e::es) [] pos) (tCB r t):=by
 intro pins s σ H Q I h
 refine wpAny_Call_Name_kw (ld_blt I hg hm hv ?_ hn hdb)
 exact PyProof.Rows.callWith_type1 (thn (ha pos pins s σ H _ I h) λ us s1 ⟨vs,H1,I1,r1,q1⟩=>hc pins s1 σ H1 vs us Q I1 r1 q1) he hpl
end
end L2
namespace HT
open PySem PyProof.Rows
section
open PySem.SeqAt
open PySem.AutoSeq1 (wpAny_loadPart')
open PySem.MeetsSeq PySem.MeetsSeq2 PySem.MeetsSeq3
end
section
variable {prog:Program}{w:World}{A:Around}{E:Value->Shared->Prop}{s:Shared}
theorem cat_tup {t b:Addr}{vs ws:List Value}{Q:Value->Shared->Prop} (ht:IsTup s.heap t vs.toArray) (hb:IsTup s.heap b ws.toArray) (hv:vs≠[])
  (h1:ws = []->Q (.ref t) s) (h2:ws≠[]->Q (.ref s.heap.objs.size) {s with heap:=s.heap.push {cls:=.type "tuple",data:=.seq (vs++ws).toArray}})
  (hsz:vs.length+ws.length<=sizeLine):wpAny (model prog w) A (binaryOp .Add (.ref t) (.ref b)) Q E s:=by
 obtain⟨⟨cls,dd,data,sl⟩,ho,hc,n,hd⟩:=id ht
 obtain⟨⟨cls2,dd2,data2,sl2⟩,ho2,hc2,n2,hd2⟩:=id hb
 simp only at hc hd hc2 hd2
 subst hc hd hc2 hd2
 have e:vs.toArray++ws.toArray=(vs++ws).toArray:=by simp
 by_cases hw:ws = []
 ·exact concat_meets ⟨_,ho,rfl⟩ ⟨_,ho2,rfl⟩ noFill_tuple_add seq_tuple_add PySem.F.slot_tuple_add PySem.F.entry_tuple_add (PySem.F.args_tuple_add_2 _ _)
   (tuple_addW1 t b vs.toArray ws.toArray n n2 dd dd2 sl sl2 (by simpa using hv) (by simp [hw])) ⟨ho,ho2,h1 hw⟩
 ·refine concat_meets ⟨_,ho,rfl⟩ ⟨_,ho2,rfl⟩ noFill_tuple_add seq_tuple_add PySem.F.slot_tuple_add PySem.F.entry_tuple_add (PySem.F.args_tuple_add_2 _ _)
   (tuple_addW2 t b vs.toArray ws.toArray n n2 dd dd2 sl sl2 (by simpa using hv) (by simpa using hw) (by rw[List.size_toArray,List.size_toArray];exact hsz)) ⟨ho,ho2,?_⟩
  rw[e]
  exact h2 hw
noncomputable def sIx (n d:Nat):Option Int->Nat
 | none=>d
 | some v=>if v<0 then (v+(n:Int)).toNat else min v.toNat n
theorem sIx_none (n d:Nat):sIx n d none=d:=rfl
theorem sIx_nat (n d k:Nat):sIx n d (some (k:Int))=min k n:=by
 show (if (k:Int)<0 then ((k:Int)+(n:Int)).toNat else min (k:Int).toNat n)=min k n
 rw[if_neg (by omega),Int.toNat_natCast]
theorem sIx_le (n d:Nat) (hd:d<=n) (o:Option Int):sIx n d o<=n:=by
 cases o with
 | none=>exact hd
 | some v =>
  show (if v<0 then (v+(n:Int)).toNat else min v.toNat n)<=n
  by_cases hv:v<0
  ·rw[if_pos hv];omega
  ·rw[if_neg hv];exact Nat.min_le_right _ _
theorem clip_eq (v:Int) (n d:Nat):(if v<0 then max (v+(n:Int)) 0 else min v (n:Int))=((sIx n d (some v):Nat):Int):=by
 show (if v<0 then max (v+(n:Int)) 0 else min v (n:Int))=(((if v<0 then (v+(n:Int)).toNat else min v.toNat n):Nat):Int)
 by_cases hv:v<0
 ·simp only[if_pos hv];omega
 ·simp only[if_neg hv];omega
theorem adjust_gen (lo hi:Option Int) (n:Nat):Builtin.Slice.sliceAdjust lo hi 1 (n:Int)=(((sIx n 0 lo:Nat):Int),((sIx n n hi:Nat):Int)):=by
 have h1:¬ ((1:Int)<0):=by omega
 unfold Builtin.Slice.sliceAdjust
 simp only[h1,if_false]
 refine Prod.ext ?_ ?_
 ·cases lo with
  | none=>rfl
  | some v=>exact clip_eq v n 0
 ·cases hi with
  | none=>rfl
  | some v=>exact clip_eq v n n
theorem places_gen (i j:Nat):Builtin.Slice.slicePlaces (i:Int) (j:Int) 1=j-i:=by
 unfold Builtin.Slice.slicePlaces
 have h1:(1:Int)>0:=by omega
 simp only[h1,if_true,Int.ediv_one]
 split<;>omega
theorem slicePart_ {v:Value}{o:Option Int}{Q:Option Int->Shared->Prop} (p:IsPart v o) (h:Q o s):wpAny (model prog w) A (Builtin.Slice.slicePartIndex v) Q E s:=by
 cases p with
 | none=>exact slicePart_none h
 | int i t=>exact slicePart_int h
theorem sliceApplied_gen {sl:Addr}{vl vu:Value}{lo hi:Option Int}{n:Nat}{Q:Int×Int×Nat->Shared->Prop} (hs:s.heap.IsSliceOf sl vl vu .none) (pl:IsPart vl lo) (pu:IsPart vu hi)
  (h:Q (((sIx n 0 lo:Nat):Int),1,sIx n n hi-sIx n 0 lo) s):wpAny (model prog w) A (Builtin.Slice.sliceApplied (.ref sl) (pure (n:Int))) Q E s:=by
 obtain⟨os,hos,hcs,hds⟩:=id hs
 unfold Builtin.Slice.sliceApplied Builtin.Slice.sliceFields
 refine wpAny_bind (wpAny_bind (wpAny_field hos hds (x:=vl) rfl (wpAny_bind (wpAny_field hos hds (x:=vu) rfl (wpAny_bind (wpAny_field hos hds (x:=.none) rfl (wpAny_pure ?_)))))))
 refine wpAny_bind (slicePart_none ?_)
 show wpAny _ _ (if ((1:Int) == 0)=true then _ else _) _ _ s
 rw[if_neg (by decide)]
 refine wpAny_bind (slicePart_ pl (wpAny_bind (slicePart_ pu (wpAny_bind (wpAny_pure ?_)))))
 show wpAny _ _ (match Builtin.Slice.sliceAdjust lo hi 1 (n:Int) with | (lo,hi)=>pure (lo,(1:Int),Builtin.Slice.slicePlaces lo hi 1)) _ _ s
 rw[adjust_gen lo hi n]
 show wpAny _ _ (pure (((sIx n 0 lo:Nat):Int),(1:Int),Builtin.Slice.slicePlaces ((sIx n 0 lo:Nat):Int) ((sIx n n hi:Nat):Int) 1)) _ _ s
 rw[places_gen]
 exact wpAny_pure h
theorem pick_gen (xs:Array Value) (i k:Nat):((List.range k).filterMap λ (m:Nat)=>xs[((i:Int)+(m:Int)*1).toNat]?).toArray=((xs.toList.drop i).take k).toArray:=by
 have e:(λ (m:Nat)=>xs[((i:Int)+(m:Int)*1).toNat]?)=λ m=>xs[i+m]?:=by
  funext m
  have:((i:Int)+(m:Int)*1).toNat=i+m:=by omega
  rw[this]
 rw[e]
 have:=pick_run xs i k
 rw[List.filterMap_map] at this
 have e2:((λ x=>xs[x]?) ∘ λ x=>i+x)=λ m=>xs[i+m]?:=rfl
 rw[e2] at this
 rw[this]
theorem getItem_tuple_cut {t sl:Addr}{items:Array Value}{vl vu:Value}{lo hi:Option Int}{Q:Value->Shared->Prop} (ht:IsTup s.heap t items) (hs:s.heap.IsSliceOf sl vl vu .none) (pl:IsPart vl lo) (pu:IsPart vu hi)
  (hw:¬ (sIx items.size 0 lo=0/\sIx items.size items.size hi=items.size))
  (h:Q (.ref s.heap.objs.size) {s with heap:=s.heap.push {cls:=.type "tuple",data:=.seq ((items.toList.drop (sIx items.size 0 lo)).take (sIx items.size items.size hi-sIx items.size 0 lo)).toArray}})
  (hsz:items.size<=sizeLine):wpAny (model prog w) A (getItem (.ref t) (.ref sl)) Q E s:=by
 have htake:sizeOk (.seq ((items.toList.drop (sIx items.size 0 lo)).take (sIx items.size items.size hi-sIx items.size 0 lo)).toArray):=by
  show ((items.toList.drop (sIx items.size 0 lo)).take (sIx items.size items.size hi-sIx items.size 0 lo)).toArray.size<=sizeLine
  rw[List.size_toArray,List.length_take,List.length_drop,Array.length_toList]
  omega
 have hj:sIx items.size items.size hi<=items.size:=sIx_le _ _ (Nat.le_refl _) hi
 obtain⟨os,hos,hcs,hds⟩:=id hs
 have hTs:s.TypeIs (.ref sl) "slice":=⟨os,hos,hcs⟩
 unfold getItem
 try with_reducible refine wpAny_holding ?_
 first | refine wpAny_bind (wpAny_pure ?_) | skip
 refine wpAny_bind (wpAny_sequenceKey ht.typeIs (by decide) ?_)
 refine wpAny_bind (wpAny_callSpecial?_slot (name:=Str.ofString "__getitem__") ht.typeIs PyProof.Rows.slot_tuple_getitem
  (wpAny_call_entry PyProof.Rows.slot_tuple_getitem ht.typeIs entry_tuple_getitem ?_ (args_tuple_getitem _ _)))
 show wpAny _ _ (Builtin.Tuple.tupleItemsOf (.ref t) >>= _) _ _ s
 refine wpAny_bind (tupleItemsOf_ ht ?_)
 refine wpAny_bind (wpAny_typeOf hTs ?_)
 rw[if_pos (by decide)]
 refine wpAny_bind (sliceApplied_gen hs pl pu ?_)
 have hno:¬ ((((sIx items.size 0 lo:Nat):Int) == 0 && (1:Int) == 1 && (sIx items.size items.size hi-sIx items.size 0 lo) == items.size)=true):=by
  intro q
  rw[Bool.and_eq_true,Bool.and_eq_true] at q
  have q1:((sIx items.size 0 lo:Nat):Int)=0:=eq_of_beq q.1.1
  have q2:sIx items.size items.size hi-sIx items.size 0 lo=items.size:=eq_of_beq q.2
  exact hw ⟨by omega,by omega⟩
 show wpAny _ _ (if (((sIx items.size 0 lo:Nat):Int) == 0 && (1:Int) == 1 && (sIx items.size items.size hi-sIx items.size 0 lo) == items.size)=true then _ else _) _ _ s
 rw[if_neg hno,pick_gen]
 first
  | exact wpAny_bind (m:=Builtin.Tuple.tupleExact _) (wpAny_newObj_type (wpAny_pure ⟨_,rfl,wpAny_pure h⟩) htake)
  | exact wpAny_bind (m:=Builtin.Tuple.tupleExact _) (wpAny_newObj_type (wpAny_bind (wpAny_pure (wpAny_pure ⟨_,rfl,wpAny_pure h⟩))) htake)
  | exact wpAny_bind (wpAny_bind (m:=Builtin.Tuple.tupleExact _) (wpAny_newObj_type (wpAny_pure (wpAny_pure ⟨_,rfl,wpAny_pure h⟩)) htake))
  | exact wpAny_bind (wpAny_bind (m:=Builtin.Tuple.tupleExact _) (wpAny_newObj_type (wpAny_pure ⟨_,rfl,wpAny_pure h⟩) htake))
end
end HT
namespace L2
open PySem PySem.Spec PyProof.Rows
noncomputable abbrev TO:=St->Hp->(Option Int->Hp->Prop)->Prop
noncomputable def PO (X:Cx) (e:Option Expr) (t:TO):Prop :=
 ∀ (pins:List (Addr×Obj)) (s:Shared) (σ:St) (H:Hp) (Q:Option Int->Hp->Prop),Inv X pins σ H s->t σ H Q ->
  wpAny (model X.prog X.w) X.A (evalPart e X.env) (λ u s'=>∃ o H',Inv X pins σ H' s'/\IsPart u o/\Q o H') X.xe s
noncomputable def tNoPart:TO:=λ _ H Q=>Q none H
noncomputable def tPart (t:TE):TO:=λ σ H Q=>t σ H λ x H1=>∃ i,x=.int i/\Q (some i) H1
theorem intsAre_of {ns:List Int}:∀ {us:List Value},Vals (ns.map V.int) us->IntsAre us ns:=by
 induction ns with
 | nil=>intro us r;rw[List.map_nil] at r;cases r;exact .nil
 | cons n ns ih =>
  intro us r
  rw[List.map_cons] at r
  cases r with
  | cons r1 r2 =>
   obtain⟨t,e⟩:=r1
   subst e
   exact .cons n t (ih r2)
section
variable {X:Cx}{e:Expr}{te:TE}{lo hi:Option Expr}{tl th:TO}{pos p2:Pos}
theorem po_none:PO X none tNoPart:=by
 intro pins s σ H Q I h
 rw[evalPart_none]
 exact wpAny_pure ⟨none,H,I,.none,h⟩
theorem po_some (h:PE X e te):PO X (some e) (tPart te):=by
 intro pins s σ H Q I hw
 rw[evalPart_some]
 refine thn (h pins s σ H _ I hw) λ u s1 ⟨x,H1,I1,r1,q1⟩=>?_
 obtain⟨i,rfl,q⟩:=q1
 obtain⟨t,rfl⟩:=r1
 exact⟨some i,H1,I1,.int i t,q⟩
noncomputable def SlR (X:Cx) (r:V->Option Int->Option Int->Hp->VK->Prop):Prop :=
 ∀ (pins:List (Addr×Obj)) (s:Shared) (σ:St) (H:Hp) (x:V) (v vl vu:Value) (lo hi:Option Int) (sl:Addr) (Q:VK),Inv X pins σ H s->RelV x v->s.heap.IsSliceOf sl vl vu .none->IsPart vl lo->IsPart vu hi->r x lo hi H Q ->
  ∃ T id,typeLookup (.type T) "__getitem__" = pure (some (.builtin id))/\s.TypeIs v T/\wpAny (model X.prog X.w) X.A (getItem v (.ref sl)) (EP X pins σ Q) X.xe s
theorem SlR.or {r r':V->Option Int->Option Int->Hp->VK->Prop} (h:SlR X r) (h':SlR X r'):SlR X (λ x lo hi H Q=>r x lo hi H Q∨r' x lo hi H Q):=by
 intro pins s σ H x v vl vu lo hi sl Q I rx hs pl pu q
 rcases q with q | q
 ·exact h pins s σ H x v vl vu lo hi sl Q I rx hs pl pu q
 ·exact h' pins s σ H x v vl vu lo hi sl Q I rx hs pl pu q
noncomputable def tSl (r:V->Option Int->Option Int->Hp->VK->Prop) (te:TE) (tl th:TO):TE:=λ σ H Q=>te σ H λ x H1=>tl σ H1 λ l H2=>th σ H2 λ u H3=>r x l u H3 Q
theorem pe_slice {r:V->Option Int->Option Int->Hp->VK->Prop} (hr:SlR X r) (he:PE X e te) (hl:PO X lo tl) (hu:PO X hi th):PE X (.Subscript e (.Slice lo hi none p2) pos) (tSl r te tl th):=by
 intro pins s σ H Q I h
 refine Subscript_ (thn (he pins s σ H _ I h) λ v s1 ⟨x,H1,I1,r1,q1⟩=>?_)
 refine wpAny_Slice (thn (hl pins s1 σ H1 _ I1 q1) λ vl s2 ⟨l,H2,I2,pl,q2⟩=>thn (hu pins s2 σ H2 _ I2 q2) λ vu s3 ⟨u,H3,I3,pu,q3⟩=>?_)
 rw[evalPart_none]
 refine wpAny_pure ?_
 have I4:Inv X pins σ H3 {s3 with heap:=s3.heap.push {cls:=.type "slice",data:=.fields #[vl,vu,.none]}}:=I3.kept (t':=s3.toks) λ b ob q=>Heap.get?_push_of_some _ q
 obtain⟨T,id,hT,ht,hg⟩:=hr pins {s3 with heap:=s3.heap.push {cls:=.type "slice",data:=.fields #[vl,vu,.none]}} σ H3 x v vl vu l u s3.heap.objs.size Q I4 r1 (Heap.IsSliceOf.new ..) pl pu q3
 show wpAny (model X.prog X.w) X.A (subscriptTail e (.Slice lo hi none p2) v (.ref s3.heap.objs.size)) (EP X pins σ Q) X.xe {s3 with heap:=s3.heap.push {cls:=.type "slice",data:=.fields #[vl,vu,.none]}}
 exact tail_any (ops:=[.ref s3.heap.objs.size,v]) ht hT hg (by with_unfolding_all rfl)
noncomputable def cutV (xs:List V) (lo hi:Option Int):List V:=(xs.drop (HT.sIx xs.length 0 lo)).take (HT.sIx xs.length xs.length hi-HT.sIx xs.length 0 lo)
theorem cutV_length (xs:List V) (lo hi:Option Int):(cutV xs lo hi).length<=xs.length:=by
 unfold cutV
 rw[List.length_take,List.length_drop]
 omega
noncomputable def rSlT (K:PySem.W.Frag):V->Option Int->Option Int->Hp->VK->Prop:=λ x lo hi H Q=>∃ a xs,x=.ref a/\SqT K H a xs /\
 ¬ (HT.sIx xs.length 0 lo=0/\HT.sIx xs.length xs.length hi=xs.length)/\∀ p,H p=none->Q (.ref p) (upd H p (.tup (cutV xs lo hi)))
theorem sl_tup:SlR X (rSlT X.K):=by
 intro pins s σ H x v vl vu lo hi sl Q I rx hs pl pu h
 obtain⟨a,xs,rfl,hx,hw,q⟩:=h
 cases rx
 obtain⟨its,r,ht,hz⟩:=I.tuple hx
 have hlen:its.toArray.size=xs.length:=by rw[List.size_toArray];exact r.length.symm
 refine⟨"tuple",_,PyProof.Rows.slot_tuple_getitem.lookup,ht.typeIs,?_⟩
 refine HT.getItem_tuple_cut ht hs pl pu (by rw[hlen];exact hw) ?_ (by rw[hlen];exact hz)
 rw[hlen]
 refine⟨.ref s.heap.objs.size,_,I.laid (t':=s.toks) (o:=.tup (cutV xs lo hi)) (λ b ob q=>Heap.get?_push_of_some _ q) (Nat.le_refl _) ?_,rfl,q _ (I.hok.fresh (Nat.le_refl _))⟩
 exact⟨Nat.le_trans (cutV_length xs lo hi) hz,_,(r.drop (HT.sIx xs.length 0 lo)).take (HT.sIx xs.length xs.length hi-HT.sIx xs.length 0 lo),IsTup.new _ _⟩
noncomputable def rCatT (K:PySem.W.Frag):R2:=λ x y H Q=>∃ a b xs ys,x=.ref a/\y=.ref b/\SqT K H a xs/\SqT K H b ys/\xs≠[]/\xs.length+ys.length<=sizeLine /\
 (ys = []->Q (.ref a) H)/\(ys≠[]->∀ p,H p=none->Q (.ref p) (upd H p (.tup (xs++ys))))
theorem Vals.nil_iff {xs:List V}{us:List Value} (r:Vals xs us):us = []↔xs = []:=by
 cases r with
 | nil=>simp
 | cons _ _=>simp
theorem op_catT:OpR X (binaryOp .Add) (rCatT X.K):=by
 intro pins s σ H x y v u Q I rx ry h
 obtain⟨a,b,xs,ys,rfl,rfl,ha,hb,hx,hz,q1,q2⟩:=h
 cases rx
 cases ry
 obtain⟨its,r1,p1,_⟩:=I.tuple ha
 obtain⟨its2,r2,p2,_⟩:=I.tuple hb
 refine HT.cat_tup p1 p2 (λ z=>hx (r1.nil_iff.mp z)) (λ z=>⟨.ref a,H,I,rfl,q1 (r2.nil_iff.mp z)⟩) (λ z=>?_) (by rw[<-r1.length,<-r2.length];exact hz)
 refine⟨.ref s.heap.objs.size,_,I.laid (t':=s.toks) (o:=.tup (xs++ys)) (λ b ob q=>Heap.get?_push_of_some _ q) (Nat.le_refl _) ?_,rfl,q2 (λ w=>z (r2.nil_iff.mpr w)) _ (I.hok.fresh (Nat.le_refl _))⟩
 exact⟨by rw[List.length_append];exact hz,_,r1.append r2,IsTup.new _ _⟩
end
end L2
namespace L2
open PySem PySem.Spec PyProof.Rows
noncomputable def ixN (n:Nat) (i:Int):Option Nat:=if 0<=i then (if i<n then some i.toNat else none) else if -(n:Int)<=i then some (i+n).toNat else none
noncomputable def atI {α:Type} (xs:List α) (i:Int):Option α:=(ixN xs.length i).bind λ j=>xs[j]?
theorem ixN_seq {n:Nat}{i:Int}{j:Nat} (h:ixN n i=some j):seqIndex? i n=some j/\j<n/\-(n:Int)<=i/\i<n:=by
 unfold ixN at h
 by_cases h0:0<=i
 ·rw[if_pos h0] at h
  by_cases h1:i<n
  ·rw[if_pos h1] at h
   have e:i.toNat=j:=Option.some.inj h
   exact⟨by rw[seqIndex_of h0 h1,e],by omega,by omega,h1⟩
  ·rw[if_neg h1] at h;cases h
 ·rw[if_neg h0] at h
  by_cases h1:-(n:Int)<=i
  ·rw[if_pos h1] at h
   have e:(i+n).toNat=j:=Option.some.inj h
   exact⟨by rw[seqIndex_neg (by omega) h1,e],by omega,h1,by omega⟩
  ·rw[if_neg h1] at h;cases h
theorem atI_get {α:Type}{xs:List α}{i:Int}{v:α} (h:atI xs i=some v):∃ j,seqIndex? i xs.length=some j/\xs[j]? = some v/\j<xs.length/\-(xs.length:Int)<=i/\i<xs.length:=by
 unfold atI at h
 cases e:ixN xs.length i with
 | none=>rw[e] at h;cases h
 | some j =>
  rw[e] at h
  obtain⟨h1,h2,h3,h4⟩:=ixN_seq e
  exact⟨j,h1,h,h2,h3,h4⟩
theorem atI_nat {α:Type}{xs:List α}{j:Nat}{v:α} (h:xs[j]? = some v):atI xs (j:Int)=some v:=by
 have hj:j<xs.length:=(List.getElem?_eq_some_iff.mp h).1
 have e:ixN xs.length (j:Int)=some j:=by
  unfold ixN
  rw[if_pos (by omega),if_pos (by omega)];simp
 unfold atI;rw[e];exact h
noncomputable def PlainIx (b:Expr):Prop:=∀ o i,subscripted b false o i=operate [o,i] (getItem o i)
noncomputable def IxR (X:Cx) (r:R2):Prop :=
 ∀ (value slice:Expr) (pins:List (Addr×Obj)) (s:Shared) (σ:St) (H:Hp) (x y:V) (v u:Value) (Q:VK),Inv X pins σ H s->RelV x v->RelV y u->r x y H Q ->
  subscripted slice false v u=operate [v,u] (getItem v u)->wpAny (model X.prog X.w) X.A (subscriptTail value slice v u) (EP X pins σ Q) X.xe s
noncomputable def MtR (X:Cx) (id:String) (r:V->List V->Hp->VK->Prop):Prop :=
 ∀ (pins:List (Addr×Obj)) (s:Shared) (σ:St) (H:Hp) (x:V) (xs:List V) (v:Value) (us:List Value) (Q:VK),Inv X pins σ H s->RelV x v->Vals xs us->r x xs H Q ->
  wpAny (model X.prog X.w) X.A (call (.builtin id) (v::us)) (EP X pins σ Q) X.xe s
section
variable {X:Cx}{a b:Expr}{ta tb:TE}{pos:Pos}
theorem IxR.or {r r':R2} (h:IxR X r) (h':IxR X r'):IxR X (λ x y H Q=>r x y H Q∨r' x y H Q):=by
 intro value slice pins s σ H x y v u Q I rx ry q hs
 rcases q with q | q
 ·exact h value slice pins s σ H x y v u Q I rx ry q hs
 ·exact h' value slice pins s σ H x y v u Q I rx ry q hs
theorem MtR.or {id:String}{r r':V->List V->Hp->VK->Prop} (h:MtR X id r) (h':MtR X id r'):MtR X id (λ x xs H Q=>r x xs H Q∨r' x xs H Q):=by
 intro pins s σ H x xs v us Q I rx rs q
 rcases q with q | q
 ·exact h pins s σ H x xs v us Q I rx rs q
 ·exact h' pins s σ H x xs v us Q I rx rs q
theorem pe_ix {r:R2} (hr:IxR X r) (ha:PE X a ta) (hb:PE X b tb) (hs:PlainIx b):PE X (.Subscript a b pos) (tOp r ta tb):=by
 intro pins s σ H Q I h
 exact Subscript_ (binT ha hb I h λ v u s2 x y H2 I2 rx ry q=>hr a b pins s2 σ H2 x y v u Q I2 rx ry q (hs _ _))
noncomputable def rIxL (K:PySem.W.Frag):R2:=λ x y H Q=>∃ p xs i v,x=.ref p/\y=.int i/\SqL K H p xs/\atI xs i=some v/\Q v H
noncomputable def rIxT (K:PySem.W.Frag):R2:=λ x y H Q=>∃ p xs i v,x=.ref p/\y=.int i/\SqT K H p xs/\atI xs i=some v/\Q v H
noncomputable def rIxS:R2:=λ x y H Q=>∃ z i c,x=.str z/\y=.int i/\z.length<=sizeLine/\atI z.cps.toList i=some c/\Q (.str ⟨#[c]⟩) H
theorem ix_list:IxR X (rIxL X.K):=by
 intro value slice pins s σ H x y v u Q I rx ry h hs
 obtain⟨p,xs,i,z,rfl,rfl,hq,he,q⟩:=h
 cases rx
 obtain⟨t,rfl⟩:=ry
 obtain⟨its,r,pl,hz⟩:=I.list hq
 obtain⟨j,h1,h2,h3,h4,h5⟩:=atI_get he
 obtain⟨w,ew,rw'⟩:=r.get h2
 have hl:=r.length
 have hn:=line63
 have fin:EP X pins σ Q w s:=⟨z,H,I,rw',q⟩
 by_cases h0:0<=i
 ·have hj:i.toNat=j:=by
   rw[seqIndex_of h0 h5] at h1
   exact Option.some.inj h1
  exact item_listR pl.isList h0 (by omega) (by rw[hj];simpa using ew) fin hs
 ·have hj:(i+(its.toArray.size:Int)).toNat=j:=by
   rw[seqIndex_neg (by omega) h4] at h1
   rw[List.size_toArray,<-hl]
   exact Option.some.inj h1
  exact subscriptTail_builtinR (x:=w) pl.isList.typeIs slot_list_getitem.lookup
   (wpAny_getItem_list_neg (Q:=λ r s'=>r=w/\EP X pins σ Q r s') pl.isList (by omega) (by rw[List.size_toArray]<;>omega) (by omega) (by rw[hj];simpa using ew) ⟨rfl,fin⟩) hs
theorem ix_tup:IxR X (rIxT X.K):=by
 intro value slice pins s σ H x y v u Q I rx ry h hs
 obtain⟨p,xs,i,z,rfl,rfl,hq,he,q⟩:=h
 cases rx
 obtain⟨t,rfl⟩:=ry
 obtain⟨its,r,pl,hz⟩:=I.tuple hq
 obtain⟨j,h1,h2,h3,h4,h5⟩:=atI_get he
 obtain⟨w,ew,rw'⟩:=r.get h2
 have hl:=r.length
 have hn:=line63
 have fin:EP X pins σ Q w s:=⟨z,H,I,rw',q⟩
 exact subscriptTail_builtinR (x:=w) pl.typeIs slot_tuple_getitem.lookup
  (getItem_tuple (j:=j) (Q:=λ r s'=>r=w/\EP X pins σ Q r s') pl (by omega) (by omega) (by rw[List.size_toArray,<-hl];exact h1) (by simpa using ew) ⟨rfl,fin⟩) hs
theorem ix_str:IxR X rIxS:=by
 intro value slice pins s σ H x y v u Q I rx ry h hs
 obtain⟨z,i,c,rfl,rfl,hz,he,q⟩:=h
 obtain⟨t,rfl⟩:=rx
 obtain⟨t',rfl⟩:=ry
 obtain⟨j,h1,h2,h3,h4,h5⟩:=atI_get he
 have hl:z.cps.toList.length=z.length:=by simp [Str.length]
 rw[hl] at h1 h4 h5
 have hn:=line63
 exact tail_any (typeIs_str s z t) slot_str_getitem.lookup (getItem_str (c:=c) (by
  have e1:decide (i < -(2^63:Int))=false:=decide_eq_false (by omega)
  have e2:decide (i ≥ 2^63)=false:=decide_eq_false (by omega)
  rw[e1,e2,Bool.or_false]) (by rw[h1];simpa using h2) ⟨.str ⟨#[c]⟩,H,I.tok _,⟨_,rfl⟩,q⟩) hs
noncomputable def rIx (K:PySem.W.Frag):R2:=λ x y H Q=>rIxL K x y H Q∨rIxT K x y H Q∨rIxS x y H Q
theorem ix_seq:IxR X (rIx X.K):=ix_list.or (ix_tup.or ix_str)
theorem Inv.lst {pins:List (Addr×Obj)}{σ:St}{H:Hp}{s:Shared}{p:Addr}{xs:List V} (I:Inv X pins σ H s) (h:H p=some (.lst xs)) :
  ∃ (its:List Value) (n:Nat),Vals xs its/\s.heap.get? p=some {cls:=.type "list",data:=.seq its.toArray n}/\xs.length<=sizeLine:=by
 obtain⟨z,its,n,r,e⟩:=I.hok p _ h
 exact⟨its,n,r,e,z⟩
theorem slice_bounds (lo hi:Option Int) (n:Nat):(sliceBounds lo hi none n).1=((HT.sIx n 0 lo:Nat):Int)/\(sliceBounds lo hi none n).2.1=((HT.sIx n n hi:Nat):Int)/\(sliceBounds lo hi none n).2.2=1:=by
 refine⟨?_,?_,rfl⟩
 ·cases lo with
  | none=>simp [sliceBounds,HT.sIx]
  | some i =>
   simp only[sliceBounds,HT.sIx,Option.getD_none,show (1:Int)>0 by decide,if_true]
   by_cases h:i<0
   ·simp only[h,if_true]<;>omega
   ·simp only[h,if_false]<;>omega
 ·cases hi with
  | none=>simp [sliceBounds,HT.sIx]
  | some i =>
   simp only[sliceBounds,HT.sIx,Option.getD_none,show (1:Int)>0 by decide,if_true]
   by_cases h:i<0
   ·simp only[h,if_true]<;>omega
   ·simp only[h,if_false]<;>omega
theorem slicePick_cut (its:List Value) (lo hi:Option Int):slicePick its.toArray lo hi none=((its.drop (HT.sIx its.length 0 lo)).take (HT.sIx its.length its.length hi-HT.sIx its.length 0 lo)).toArray:=by
 obtain⟨h1,h2,h3⟩:=slice_bounds lo hi its.toArray.size
 unfold slicePick
 rw[h1,h2,h3]
 simp only[sliceRange_one,pick_run,List.size_toArray]<;>rfl
noncomputable def rSlL (K:PySem.W.Frag):V->Option Int->Option Int->Hp->VK->Prop:=λ x lo hi H Q=>∃ a xs,x=.ref a/\SqL K H a xs/\∀ p,H p=none->Q (.ref p) (upd H p (.lst (cutV xs lo hi)))
theorem sl_list:SlR X (rSlL X.K):=by
 intro pins s σ H x v vl vu lo hi sl Q I rx hs pl pu h
 obtain⟨a,xs,rfl,hx,q⟩:=h
 cases rx
 obtain⟨its,r,ht,hz⟩:=I.list hx
 have hlen:=r.length
 refine⟨"list",_,slot_list_getitem.lookup,ht.isList.typeIs,?_⟩
 refine wpAny_getItem_list_slice ht.isList hs pl pu .none (by simp) ?_ (by rw[List.size_toArray]<;>omega)
 rw[slicePick_cut,<-hlen]
 refine⟨.ref s.heap.objs.size,_,I.laid (t':=s.toks) (o:=.lst (cutV xs lo hi)) (λ b ob q=>Heap.get?_push_of_some _ q) (Nat.le_refl _) ?_,rfl,q _ (I.hok.fresh (Nat.le_refl _))⟩
 exact⟨Nat.le_trans (cutV_length xs lo hi) hz,_,0,(r.drop (HT.sIx xs.length 0 lo)).take (HT.sIx xs.length xs.length hi-HT.sIx xs.length 0 lo),Heap.get?_push_size _ rfl⟩
theorem call_len_seq:CallR X (.builtin "len") (λ xs H Q=>∃ p ys,xs = [.ref p]/\(SqL X.K H p ys∨SqT X.K H p ys)/\Q (.int ys.length) H):=by
 intro pins s σ H xs us Q I r h
 obtain⟨p,ys,rfl,hq,q⟩:=h
 obtain⟨u,rfl,rx⟩:=vals1 r
 cases rx
 have hn:=line63
 rcases hq with hq | hq
 ·obtain⟨its,r',pl,hz⟩:=I.list hq
  have hlen:=r'.length
  exact Calls.call_len_list pl.isList (by simp only[List.size_toArray]<;>omega) ⟨.int ys.length,H,I.tok _,⟨s.toks+1,by rw[List.size_toArray,hlen]⟩,q⟩
 ·obtain⟨its,r',pl,hz⟩:=I.tuple hq
  have hlen:=r'.length
  exact len_tuple pl (by simp only[List.size_toArray]<;>omega) ⟨.int ys.length,H,I.tok _,⟨s.toks+1,by rw[List.size_toArray,hlen]⟩,q⟩
theorem CallR.or {f:Value}{r r':List V->Hp->VK->Prop} (h:CallR X f r) (h':CallR X f r'):CallR X f (λ xs H Q=>r xs H Q∨r' xs H Q):=by
 intro pins s σ H xs us Q I rs q
 rcases q with q | q
 ·exact h pins s σ H xs us Q I rs q
 ·exact h' pins s σ H xs us Q I rs q
theorem call_tuple_of:CallR X (.type "tuple") (λ xs H Q=>∃ p ys,xs = [.ref p]/\((SqL X.K H p ys/\∀ l,H l=none->Q (.ref l) (upd H l (.tup ys)))∨(SqT X.K H p ys/\Q (.ref p) H))):=by
 intro pins s σ H xs us Q I r h
 obtain⟨p,ys,rfl,h⟩:=h
 obtain⟨u,rfl,rx⟩:=vals1 r
 cases rx
 rcases h with ⟨hq,q⟩ | ⟨hq,q⟩
 ·obtain⟨its,r',pl,hz⟩:=I.list hq
  have hlen:=r'.length
  refine call_tuple_list pl.isList (λ h' kp=>?_) (by simp only[List.size_toArray]<;>omega)
  have I1:Inv X pins σ H {s with heap:=h'}:=I.kept (t':=s.toks) kp
  have I2:Inv X pins σ (upd H h'.objs.size (.tup ys)) {s with heap:=h'.push {cls:=.type "tuple",data:=.seq its.toArray}} :=
   I1.laid (t':=s.toks) (λ b o e=>Heap.get?_push_of_some _ e) (Nat.le_refl _) (show ObjOk X.prog X.w _ _ _ (.tup ys) from ⟨hz,its,r',IsTup.new _ _⟩)
  exact⟨.ref h'.objs.size,_,I2,rfl,q _ (I1.hok.fresh (Nat.le_refl _))⟩
 ·obtain⟨its,r',pl,hz⟩:=I.tuple hq
  exact call_tuple_same pl ⟨.ref p,H,I,rfl,q⟩
noncomputable def tyV (K:PySem.W.Frag) (T:String) (x:V) (H:Hp):Prop:=match x with
 | .str _=>T = "str"
 | .int _=>T = "int"
 | .ref p=>(T = "list"/\∃ xs,SqL K H p xs)∨(T = "tuple"/\∃ o,K.lookup p=some o/\o.cls=.type "tuple"/\o.dict=none) ∨
   (T = "dict"/\((∃ kvs,H p=some (.dK kvs))∨∃ kvs,H p=some (.dT kvs)))∨(T = "set"/\∃ S n,H p=some (.set S n))
 | _=>False
theorem tyV_is {pins:List (Addr×Obj)}{σ:St}{H:Hp}{s:Shared}{T:String}{x:V}{v:Value} (I:Inv X pins σ H s) (r:RelV x v) (ty:tyV X.K T x H) :
  s.TypeIs v T/\∀ a,v=.ref a->∃ ob,s.heap.get? a=some ob/\ob.dict=none:=by
 cases x with
 | str z =>
  obtain⟨t,rfl⟩:=r
  cases (show T = "str" from ty)
  exact⟨typeIs_str s z t,λ _ e=>nomatch e⟩
 | int i =>
  obtain⟨t,rfl⟩:=r
  cases (show T = "int" from ty)
  exact⟨typeIs_int s i t,λ _ e=>nomatch e⟩
 | ref p =>
  cases r
  rcases ty with ⟨rfl,xs,hq⟩ | ⟨rfl,o,hk,hc,hd⟩ | ⟨rfl,hk⟩ | ⟨rfl,S,n,hk⟩
  ·obtain⟨its,_,pl,_⟩:=I.list hq
   refine⟨pl.isList.typeIs,λ a e=>?_⟩
   cases e
   obtain⟨o,n,e,c,hd,_⟩:=pl
   exact⟨o,e,hd⟩
  ·refine⟨⟨o,I.kIn p o hk,hc⟩,λ a e=>?_⟩
   cases e
   exact⟨o,I.kIn _ o hk,hd⟩
  ·have z:∃ o,s.heap.get? p=some o/\o.ExactDict:=by
    rcases hk with ⟨kvs,hk⟩ | ⟨kvs,hk⟩
    ·obtain⟨_,_,_,_,o,_,_,e,ex,_⟩:=I.hok p _ hk
     exact⟨o,e,ex⟩
    ·obtain⟨_,_,_,_,o,_,_,e,ex,_⟩:=I.hok p _ hk
     exact⟨o,e,ex⟩
   obtain⟨o,e,ex⟩:=z
   refine⟨⟨o,e,ex.1⟩,λ a e2=>?_⟩
   cases e2
   exact⟨o,e,ex.2.1⟩
  ·obtain⟨o,_,_,_,e,ex,_⟩:=I.hok p _ hk
   refine⟨⟨o,e,ex.1⟩,λ a e2=>?_⟩
   cases e2
   exact⟨o,e,ex.2.1⟩
 | _=>exact False.elim ty
noncomputable def tBM (K:PySem.W.Frag) (T:String) (r:V->List V->Hp->VK->Prop) (to:TE) (t:TA):TE:=λ σ H Q=>to σ H λ x H1=>tyV K T x H1/\t σ H1 λ xs H2=>r x xs H2 Q
variable {o e:Expr}{es:List Expr}{to:TE}{t:TA}{name:Str}{apos cpos:Pos}{T id:String}{r:V->List V->Hp->VK->Prop}
theorem pe_bm (pa:PlainAttrs T) (slot:Slot T name id) (hty:typeOf (.builtin id)=pure (.type "method_descriptor")) (hm:MtR X id r) (ho:PE X o to) (ha:PA X (e::es) t)
  (hbase:attributeBase o name X.env (eval o X.env)=eval o X.env:=by rfl)
  (hfew:((backTo cpos (starEach (e::es) X.env)).all (λ x=>!x.1) && (backToKw cpos (keywordEach [] X.env)).all (λ x=>x.1.isSome)
   && decide ((e::es).length+([]:List Keyword).length+(if ([]:List Keyword).isEmpty then 0 else 1)<30))=true:=by rfl)
  (hline:(apos.endLine == cpos.line)=true:=by rfl) (hs:starEach (e::es) X.env=(false,eval e X.env)::starEach es X.env:=by rfl) (hplain:(backTo cpos (starEach es X.env)).any (·.1)=false:=by rfl) :
  PE X (.Call (.Attribute o name apos) (e::es) [] cpos) (tBM X.K T r to t):=by
 intro pins s σ H Q I h
 refine wpAny_Call_method_late hbase hfew hline rfl (thn (ho pins s σ H _ I h) λ v s1 ⟨x,H1,I1,r1,ty,q1⟩=>?_)
 obtain⟨h1,h2⟩:=tyV_is I1 r1 ty
 refine⟨T,id,pa,slot,hty,h1,h2,?_⟩
 have hA:=ha cpos pins s1 σ H1 _ I1 q1
 rw[hs] at hA ⊢
 refine Calls.callWith_builtin (by show (false || (backTo cpos (starEach es X.env)).any (·.1))=false;rw[hplain]<;>rfl) (Calls.evalArgs_plain ?_)
 exact thn hA λ us s2 ⟨vs,H2,I2,r2,q2⟩=>hm pins s2 σ H2 x vs v us Q I2 r1 r2 q2
end
end L2
namespace L2
open PySem PySem.Spec PyProof.Rows
noncomputable def MtM (X:Cx) (id:String) (r:V->List V->Hp->VK->Prop):Prop :=
 ∀ (pins:List (Addr×Obj)) (s:Shared) (σ:St) (H:Hp) (x:V) (xs:List V) (v:Value) (us:List Value) (Q:VK),Inv X pins σ H s->RelV x v->Vals xs us->r x xs H Q ->
  wpAny (model X.prog X.w) X.A (call (.builtin id) (v::us)) (EP X pins σ Q) X.xe s
theorem Vals.one:∀ {x:V}{us:List Value},Vals [x] us->∃ u,us = [u]/\RelV x u
 | _,_,.cons r .nil=>⟨_,rfl,r⟩
theorem Vals.two:∀ {x y:V}{us:List Value},Vals [x,y] us->∃ u v,us = [u,v]/\RelV x u/\RelV y v
 | _,_,_,.cons r (.cons q .nil)=>⟨_,_,rfl,r,q⟩
theorem Vals.zero:∀ {us:List Value},Vals [] us->us = []
 | _,.nil=>rfl
theorem Vals.reverse {xs:List V}{us:List Value} (h:Vals xs us):Vals xs.reverse us.reverse:=by
 induction h with
 | nil=>exact .nil
 | cons r t ih=>rw[List.reverse_cons,List.reverse_cons];exact Vals.append ih (.cons r .nil)
section
variable {X:Cx}{pins:List (Addr×Obj)}{σ:St}{H:Hp}{s:Shared}{l b:Addr}{xs ys zs:List V}
theorem Inv.lset {its its':List Value}{n:Nat}{f:Array Value->Array Value}{t':Nat} (I:Inv X pins σ H s) (hH:H l=some (.lst xs))
  (e:s.heap.get? l=some {cls:=.type "list",data:=.seq its.toArray n}) (hf:f its.toArray=its'.toArray) (hv:Vals ys its') (hz:ys.length<=sizeLine) :
  Inv X pins σ (upd H l (.lst ys)) {s with heap:=s.heap.update l (Obj.mapSeq f),toks:=t'}:=by
 have q:=PySem.IsL.update e f
 rw[hf] at q
 refine I.write (x:=l) (e:=l) (by rw[hH];exact trivial) (.inl rfl) (λ b' u hb hu=>(Heap.get?_update_other s.heap (Obj.mapSeq f) (Ne.symm hb)).trans hu) ⟨_,q⟩ ?_
 exact⟨hz,its',_,hv,q⟩
theorem Inv.lnew {its:List Value}{t':Nat} (I:Inv X pins σ H s) (hv:Vals ys its) (hz:ys.length<=sizeLine) :
  Inv X pins σ (upd H s.heap.objs.size (.lst ys)) {s with heap:=s.heap.push {cls:=.type "list",data:=.seq its.toArray},toks:=t'} :=
 I.laid (λ _ _ q=>Heap.get?_push_of_some _ q) (Nat.le_refl _) ⟨hz,its,0,hv,Heap.get?_push_size _ rfl⟩
theorem Inv.fresh (I:Inv X pins σ H s):H s.heap.objs.size=none:=I.hok.fresh (Nat.le_refl _)
theorem Inv.lstM (I:Inv X pins σ H s) (hH:H l=some (.lst xs)):xs.length<=sizeLine/\∃ (its:List Value) (n:Nat),Vals xs its/\xs.length=its.length/\s.heap.get? l=some {cls:=.type "list",data:=.seq its.toArray n}:=by
 obtain⟨z,its,n,r,e⟩:=I.hok l _ hH
 exact⟨z,its,n,r,r.length,e⟩
theorem notLongL {n:Nat} (h:n<=sizeLine):Builtin.List.listTooLong n=false:=by
 unfold Builtin.List.listTooLong
 exact decide_eq_false (by omega)
end
section
variable {X:Cx}
noncomputable def rAppend:V->List V->Hp->VK->Prop:=λ x vs H Q=>∃ l xs y,x=.ref l/\vs = [y]/\H l=some (.lst xs)/\xs.length<sizeLine/\Q .non (upd H l (.lst (xs++[y])))
theorem mt_append:MtM X "list.append" rAppend:=by
 intro pins s σ H x vs v us Q I rx rv h
 obtain⟨l,xs,y,rfl,rfl,hH,hz,q⟩:=h
 cases rx
 obtain⟨u,rfl,ru⟩:=rv.one
 obtain⟨z,its,n,r,hl,e⟩:=I.lstM hH
 refine call_meets F.slot_list_append ⟨_,e,rfl⟩ F.entry_list_append (F.args_list_append_2 _ _) (PySem.list_append l its.toArray n u (by rw[List.size_toArray];omega)) ⟨e,?_⟩
 refine⟨.non,_,I.lset (its':=its++[u]) hH e (by simp) (r.append (.cons ru .nil)) ?_,rfl,q⟩
 rw[List.length_append,List.length_singleton]
 omega
noncomputable def rCat:R2:=λ x y H Q=>∃ l b xs zs,x=.ref l/\y=.ref b/\H l=some (.lst xs)/\H b=some (.lst zs)/\xs.length+zs.length<=sizeLine/\∀ p,H p=none->Q (.ref p) (upd H p (.lst (xs++zs)))
theorem op_cat:OpR X (binaryOp .Add) rCat:=by
 intro pins s σ H x y v u Q I rx ry h
 obtain⟨l,b,xs,zs,rfl,rfl,hH,hB,hz,q⟩:=h
 cases rx
 cases ry
 obtain⟨z,its,n,r,hl,e⟩:=I.lstM hH
 obtain⟨z2,its2,n2,r2,hl2,e2⟩:=I.lstM hB
 refine PySem.P.add_list e e2 ?_ (by rw[List.size_toArray,List.size_toArray];omega)
 have ea:its.toArray++its2.toArray=(its++its2).toArray:=by simp
 rw[ea]
 exact⟨.ref _,_,I.lnew (t':=s.toks) (r.append r2) (by rw[List.length_append];omega),rfl,q _ I.fresh⟩
end
section
variable {prog:Program}{w:World}{A:Around}{E:Value->Shared->Prop}{s:Shared}
end
section
variable {X:Cx}
end
end L2
namespace Att
open PySem PySem.W PySem.Calls PyProof.Rows
theorem ints_of_wellAll {P:Params}{h:Heap}:∀ (ns:List Int) (vs:List Value),WellAll P h vs (ns.map WData.int)->IntsAre vs ns:=by
 intro ns
 induction ns with
 | nil =>
  intro vs w
  rw[List.map_nil] at w
  cases w
  exact .nil
 | cons n ns ih =>
  intro vs w
  rw[List.map_cons] at w
  cases w with
  | cons a b =>
   cases a
   exact .cons _ _ (ih _ b)
theorem script_of {l:OpenLaw}{n:Nat} (hn:l.most=some n) {P:Params}{h:Heap}{args:List WData}{vals:List Value}
  (hpre:l.row.toRowW.claim.pre args=true) (hwl:WellAll P h vals args) :
  ∃ a vs ns,vals = [Value.ref a]/\args = [WData.list (ns.map WData.int)]/\h.get? a=some {cls:=.type "list",data:=.seq vs.toArray}/\IntsAre vs ns/\ns.length<=n:=by
 have hsh:WShape.hasAll [] args [.list .int]=true:=(pre_splitW hpre).1
 have hc:l.pre.holds [] {args:=args}=true:=(pre_splitW hpre).2
 obtain⟨d,r,rfl,h1,h2⟩:=hasAllW_cons hsh
 obtain rfl:=hasAllW_nil h2
 obtain⟨xs,rfl,h3⟩:=hasW_list h1
 obtain⟨ns,rfl⟩:=items_int h3
 have hlen:ns.length<=n:=by
  unfold OpenLaw.pre at hc
  have h4:(WTm.not (.lt (.lit (.int (n:Int))) (.len (.arg 0)))).holds [] {args:=[.list (ns.map .int)]}=true:=by
   have h4:=(holds_andW hc).1
   rw[hn] at h4
   exact h4
  have h5:=condW_of h4 (w_not (w_lt w_lit (w_len_list (w_arg rfl))))
  rw[List.length_map] at h5
  refine Nat.le_of_not_lt λ q=>?_
  have q':(n:Int)<((ns.length:Nat):Int):=by omega
  first
   | (rw[decide_eq_true q'] at h5;exact absurd h5 (by decide))
   | (simp at h5;omega)
 cases hwl with
 | cons w1 w2 =>
  cases w2
  cases w1 with
  | list ho hall=>exact⟨_,_,ns,rfl,rfl,ho,ints_of_wellAll ns _ hall,hlen⟩
theorem post_true (l:OpenLaw) (args:List WData):l.row.toRowW.claim.post args (.bool true) args=true :=
 postW_of (r:=l.row.toRowW) (X:=(true == true))
  (show WShape.has [] (.bool true) .bool=true by first | rfl | decide | simp [WShape.has,WShape.arms,WShape.armsAll])
  (show (WTm.eq .res (.lit (.bool true))).value [] {args:=args,res:=some (.bool true),after:=args}=some (.bool (true == true)) from w_eq_bool (w_res rfl) w_lit) rfl
section
variable {prog:Program}{w:World}{A:Around}{E:Value->Shared->Prop}{s:Shared}{K:Frag}
end
end Att
namespace L2
open PySem PySem.Spec PyProof.Rows
theorem vals_ints:∀ {vs:List Value}{ns:List Int},IntsAre vs ns->Vals (ns.map V.int) vs
 | _,_,.nil=>.nil
 | _,_,.cons n t h=>.cons ⟨t,rfl⟩ (vals_ints h)
end L2
namespace L2
open PySem PySem.Spec PyProof.Rows
end L2
namespace L2
open PySem PySem.Spec PyProof.Rows
noncomputable def defArgs (s:Stmt):Arguments:=match s with
 | .FunctionDef _ a _ _ _ _ _ _ _ _=>a
 | _=>{posonlyargs:=[],args:=[],vararg:=none,kwonlyargs:=[],kw_defaults:=[],kwarg:=none,defaults:=[]}
noncomputable def defBody (s:Stmt):List Stmt:=match s with
 | .FunctionDef _ _ b _ _ _ _ _ _ _=>b
 | _=>[]
noncomputable def defScope (s:Stmt):Scope:=match s with
 | .FunctionDef _ _ _ _ _ _ sc _ _ _=>sc
 | _=>{kind:=.function,names:=[],isGenerator:=false,isCoroutine:=false}
noncomputable abbrev CX0:CXT:=λ _ _ _ _ _ _=>False
noncomputable abbrev E0:XK:=λ _ _ _=>False
theorem pass0 {X:Cx}:Passes CX0 X E0:=λ _ _ _ _ _ _ _ h=>h.elim
structure Fun (K:PySem.W.Frag) (x qual:Str) (st:Stmt) (f:Addr) (fd:FuncData):Prop where
 ex:∃ (oc:Value) (od:Option Addr) (kV doc pm:Value) (an:Option Addr) (cdv ct:Value) (osl:Array (Option Value)),
  fd=PySem.W.fnOf x qual (defArgs st) (defBody st) (defScope st) .none kV doc pm an cdv ct/\K.lookup f=some ⟨oc,od,.func fd,osl⟩/\PySem.W.codeIn K cdv qual=true
 kp:PySem.W.keepIn K (.ref f)=true
section
variable {P:Program}{w:World}{K:PySem.W.Frag}{mg:Str->Option Value}{base:Heap}
theorem Fun.ok {x qual:Str}{st:Stmt}{f:Addr}{fd:FuncData}{N ps:List Str}{k:Nat}{sp:Sp} (F:Fun K x qual st f fd) (S:FnScope N ps (defScope st)) (len:∀ vs H Q E,sp vs H Q E->vs.length=ps.length)
  (hbody:∀ (cdv:Value) (A:Around) (outer:List Env) (s:Shared) (H:Hp) (vs:List V) (Q:VK) (E:XK),Room k (A.deeper (envOfC qual (defScope st) s.heap.objs.size f cdv))->sp vs H Q E ->
   ∃ t,PSs (cxOf CX0 P w K mg base N qual (defScope st) f cdv A outer s H E).nox (defBody st) t/\t {nx:=λ _ H'=>Q .non H',rt:=Q} (start N vs) H):FnOk P w K mg base CX0 (k+1) f fd ps sp:=by
 obtain⟨oc,od,kV,doc,pm,an,cdv,ct,osl,rfl,lk,hcd⟩:=F.ex
 refine fn_of lk hcd S len λ A outer s H vs Q E hr hsp=>?_
 obtain⟨t,h,q⟩:=hbody cdv A outer s H vs Q E hr hsp
 exact⟨t,h.nox,q⟩
theorem Fun.binds {x qual:Str}{st:Stmt}{f:Addr}{fd:FuncData}{ps:List Str} (F:Fun K x qual st f fd)
  (h:∀ (kV doc pm:Value) (an:Option Addr) (cdv ct:Value) (us:List Value),us.length=ps.length->bindArgs (PySem.W.fnOf x qual (defArgs st) (defBody st) (defScope st) .none kV doc pm an cdv ct) ⟨us,[]⟩=pure (ps.zip us)):Binds K fd ps []:=by
 obtain⟨oc,od,kV,doc,pm,an,cdv,ct,osl,rfl,lk,hcd⟩:=F.ex
 exact .all (h kV doc pm an cdv ct)
theorem fun_mk {x qual:Str}{st:Stmt}{f:Addr}{oc:Value}{od an:Option Addr}{osl:Array (Option Value)}{kV doc pm cdv ct:Value} (l:K.lookup f=some ⟨oc,od,.func (PySem.W.fnOf x qual (defArgs st) (defBody st) (defScope st) .none kV doc pm an cdv ct),osl⟩)
  (c:PySem.W.codeIn K cdv qual=true) (k:PySem.W.keepIn K (.ref f)=true):Fun K x qual st f (PySem.W.fnOf x qual (defArgs st) (defBody st) (defScope st) .none kV doc pm an cdv ct):=⟨⟨oc,od,kV,doc,pm,an,cdv,ct,osl,rfl,l,c⟩,k⟩
end
section
variable {X:Cx}
theorem pv (i:Nat) {x:Str}{pos:Pos} (hN:X.N[i]? = some x:=by rfl) (hv:Vis X.env.scope x:=by first | exact Or.inl rfl | exact Or.inr (Or.inl rfl) | exact Or.inr (Or.inr rfl)) (hd:(x == ("__debug__":Str))=false:=by decide)
  (hcd:(x == ("__classdict__":Str))=false:=by decide):PE X (.Name x pos) (tVar i):=pe_var hN hv hd hcd
end
theorem iteF {A B:Prop} (h:B):if false=true then A else B:=by
 rw[if_neg Bool.false_ne_true]
 exact h
theorem iteT {A B:Prop} (h:A):if true=true then A else B:=by
 rw[if_pos rfl]
 exact h
theorem ite2 {c A B:Prop} [Decidable c] (h1:c->A) (h2:¬ c->B):if c then A else B:=by
 by_cases h:c
 ·rw[if_pos h]
  exact h1 h
 ·rw[if_neg h]
  exact h2 h
noncomputable def Same (H H':Hp):Prop:=∀ b o,H b=some o->H' b=some o
theorem Same.refl (H:Hp):Same H H:=λ _ _ h=>h
theorem Same.trans {H H1 H2:Hp} (a:Same H H1) (b:Same H1 H2):Same H H2:=λ c o h=>b c o (a c o h)
theorem Same.free {H H':Hp} (e:Same H H') {l:Addr} (h:H' l=Option.none):H l=Option.none:=by
 cases q:H l with
 | none=>rfl
 | some o =>
  rw[e l o q] at h
  cases h
theorem Same.seq {K:PySem.W.Frag}{H H':Hp}{a:Addr}{xs:List V} (e:Same H H') (h:SqL K H a xs):SqL K H' a xs:=by
 rcases h with (h | ⟨o,h⟩) | h
 ·exact .inl (.inl (e _ _ h))
 ·exact .inl (.inr ⟨o,e _ _ h⟩)
 ·exact .inr h
end L2
set_option maxHeartbeats 4000000
namespace L2
open PySem PySem.Spec PyProof.Rows
section
variable {X:Cx}
noncomputable def Sml (i:Int):Prop:=i.natAbs<2^4000
theorem Sml.bits {i:Int} (h:Sml i):Builtin.Int.intBits i<=4000:=intBits_le_iff.mpr h
theorem call_isinst:CallR X (.builtin "isinstance") (λ xs H Q=>∃ x t T b,xs = [x,.ty T]/\TyOf X.K H x t/\PySem.W.kitOne X.K t (.type T)=some b/\Q (.bl b) H):=by
 intro pins s σ H xs us Q I r h
 obtain⟨x,t,T,b,rfl,ty,e,q⟩:=h
 obtain⟨u,w',rfl,r1,r2⟩:=vals2 r
 cases r2
 exact isinst_ok I r1 ty e λ tk=>⟨.bl b,H,I.tok _,rfl,q⟩
theorem intItems_of:∀ {ns:List Int}{us:List Value},Vals (ns.map V.int) us->∃ xs:Array (Int×Tok),us.toArray=intItems xs/\xs.toList.map (·.1)=ns:=λ {ns us} r=>by
 have hi:IntsAre us ns:=intsAre_of r
 obtain⟨xs,hx⟩:=hi.allInts.items
 refine⟨xs,hx,?_⟩
 rw[<-nums_intItems,<-hx]
 exact (show numsOf us.toArray.toList=ns from hi.numsOf)
theorem call_sum (hc:X.calm=true):CallR X (.builtin "sum") (λ xs H Q=>∃ (p:Addr) (ns:List Int),xs = [.ref p]/\SqL X.K H p (ns.map V.int)/\Q (.int ns.sum) H):=by
 intro pins s σ H xs us Q I r h
 obtain⟨p,ns,rfl,hq,q⟩:=h
 obtain⟨u,rfl,r1⟩:=vals1 r
 cases r1
 obtain⟨its,rv,pl,hz⟩:=I.list hq
 obtain⟨ys,hy,e1⟩:=intItems_of rv
 refine sum_intListG (I.ok.hd hc) (hy ▸ pl.isList) λ h' tk t' hk=>?_
 have e2:preSum (numAt ys) ys.size=ns.sum:=by
  rw[preSum_eq,List.take_of_length_le (by simp),e1]
 rw[e2]
 exact⟨.int ns.sum,H,I.kept hk,⟨_,rfl⟩,q⟩
end
theorem boot_min:bootBuiltins "min" = some (.builtin "min"):=PyProof.Rows.boot_min
theorem boot_max:bootBuiltins "max" = some (.builtin "max"):=PyProof.Rows.boot_max
theorem boot_sum:bootBuiltins "sum" = some (.builtin "sum"):=PyProof.Rows.boot_sum
theorem boot_abs:bootBuiltins "abs" = some (.builtin "abs"):=PyProof.Rows.boot_abs
theorem boot_isinstance:bootBuiltins "isinstance" = some (.builtin "isinstance"):=PyProof.Rows.boot_isinstance
theorem boot_int:bootBuiltins "int" = some (.type "int"):=PyProof.Rows.boot_int
theorem boot_bool:bootBuiltins "bool" = some (.type "bool"):=PyProof.Rows.boot_bool
theorem boot_tuple:bootBuiltins "tuple" = some (.type "tuple"):=PyProof.Rows.boot_tuple
theorem boot_list:bootBuiltins "list" = some (.type "list"):=PyProof.Rows.boot_list
theorem getD_in {α:Type}{ns:List α}{i:Nat}{d:α} (h:i<ns.length):ns.getD i d=ns[i]:=by simp [List.getD,h]
theorem getD_out {α:Type}{ns:List α}{i:Nat}{d:α} (h:ns.length<=i):ns.getD i d=d:=by simp [List.getD,h]
theorem same_new {H:Hp}{p:Addr} (h:H p=none) (o:HO):Same H (upd H p o):=λ b u q=>by rw[upd_ne (ne_of_none q h)];exact q
theorem ofD {p:Prop} [Decidable p] (h:¬ decide p=true):¬ p:=of_decide_eq_false (Bool.eq_false_iff.mpr h)
theorem sub1 {cs:List (Str×Addr)}{x:Str}{c:Addr} (h:cs.lookup x=some c):∀ y c',[(x,c)].lookup y=some c'->cs.lookup y=some c':=λ y c' e=>by
 by_cases z:y=x
 ·subst z
  simp at e
  subst e
  exact h
 ·have:(y == x)=false:=by simpa using z
  simp [List.lookup,this] at e
theorem at_getD {ns:List Int}{i:Int} (h0:0<=i) (h1:i<(ns.length:Int)):atI (ns.map V.int) i=some (.int (ns.getD i.toNat 0)):=by
 have hk:i.toNat<ns.length:=by omega
 have ek:i=((i.toNat:Nat):Int):=by omega
 have z:atI (ns.map V.int) ((i.toNat:Nat):Int)=some (.int ns[i.toNat]):=atI_nat (by rw[List.getElem?_map,List.getElem?_eq_getElem hk]<;>rfl)
 rw[<-ek] at z
 rw[z,getD_in hk]
theorem md0 (c:Int) {m:Int} (h:0<m):0<=c%m:=Int.emod_nonneg _ (by omega)
theorem md1 (c:Int) {m:Int} (h:0<m):c%m<m:=Int.emod_lt_of_pos _ h
end L2
set_option maxHeartbeats 4000000
namespace L2
open PySem PySem.Spec PyProof.Rows
noncomputable def cxComp (X:Cx) (N':List Str) (scope:Scope) (cl:List (Str×Addr)) (C:Addr) (s3:Shared) (H3:Hp) (fp:List Addr):Cx where
 prog:=X.prog
 w:=X.w
 K:=X.K
 mg:=X.mg
 base:=X.base
 A:=X.A
 N:=N'
 s₀:=s3
 H₀:=H3
 env:=compEnvC scope cl C X.env
 outer:=X.stack
 stack:=X.stack
 ex:=fp
 fn:=λ _=>false
 calm:=X.calm
 pn:=[]
 xe:=λ _ _=>False
noncomputable def taken (σ:St) (fr:List Nat):St:=fr.map λ j=>(σ[j]?).getD none
noncomputable def CompGo (J:It) (te:TE) (st:St) (D:Addr) (H1:Hp) (Q:VK):Prop :=
 ∃ W:Nat->Nat->List V->Hp->Prop,(∃ m,W 0 m [] (upd H1 D (.lst [])))/\∀ i m ys H2,W i m ys H2 ->
  (J.stop i H2/\Q (.ref D) H2)∨(J.go i H2/\∀ x H3,J.yld i H2 x H3->te (some x::st) H3 λ y H4=>H4 D=some (.lst ys)/\ys.length<sizeLine/\∃ m',m'<m/\W (i+1) m' (ys++[y]) (upd H4 D (.lst (ys++[y]))))
noncomputable def tComp (wi:TI) (fr:List Nat) (te:TE):TE:=λ σ H Q=>wi σ H λ J H1=>∀ D,H1 D=none->CompGo J te (taken σ fr) D H1 Q
theorem compLoop_any {prog:Program}{w:World}{A:Around}{R:Result->Shared->Prop}{s:Shared}{elt tg iter:Expr}{scope:Scope}{pos:Pos}{it acc:Value}{env:Env} (Iv:Nat->Shared->Prop)
  (turn:∀ k s,Iv k s->wpAny (model prog w) A (pyNext it) (λ r s1=>match r with
   | none=>R (.ok .next) s1
   | some v=>wpAny (model prog w) A (letOwnedTupleGo tg it v) (λ _ s2=>wpAny (model prog w) A (assign tg env v) (λ _ s3=>wpAny (model prog w) A (eval elt env) (λ y s4 =>
     wpAny (model prog w) A (call (.builtin "list.append") [acc,y]) (λ _ s5=>∃ m,m<k/\Iv m s5) (λ _ _=>False) s4) (λ _ _=>False) s3) (λ _ _=>False) s2) (λ _ _=>False) s1) (λ _ _=>False) s)
  (k:Nat) (h:Iv k s):codeAny (model prog w) A (.compLoop (.ListComp elt [⟨tg,iter,[],0⟩] scope pos) 0 it acc env) R s:=by
 refine codeAny_loop rfl Iv (λ k s hI=>?_) k h
 show wpAny _ _ ((compTurn (.ListComp elt [⟨tg,iter,[],0⟩] scope pos) 0 it acc env).onRaise (λ e=>do noteFrame e env;theTreesLotGoes e)) _ _ s
 refine wpAny_noted ?_
 rw[compTurn_list1]
 refine wpAny_bind (wpAny_standAt (wpAny_bind (wpAny_mono (turn k s hI) (λ r s1 h1=>?_) λ _ _ f=>f.elim)))
 cases r with
 | none=>exact wpAny_pure h1
 | some v =>
  exact wpAny_bind (wpAny_mono h1 (λ _ s2 h2=>wpAny_bind (wpAny_mono h2 (λ _ s3 h3=>wpAny_bind (wpAny_bind (wpAny_mono h3 (λ y s4 h4=>wpAny_bind (wpAny_mono h4
   (λ _ s5 h5=>wpAny_pure (wpAny_pure ⟨rfl,h5⟩)) λ _ _ f=>f.elim)) λ _ _ f=>f.elim))) λ _ _ f=>f.elim)) λ _ _ f=>f.elim)
theorem comp_range {lo:Int}{n:Nat}{te:TE}{st:St}{H1:Hp}{Q:VK}{D:Addr} (f:Nat->V) (hD:H1 D=none) (hn:n<=sizeLine)
  (hs:∀ (i:Nat) (H2:Hp) (k:VK),i<n->Same H1 H2->(∀ H4,Same H2 H4->k (f i) H4)->te (some (.int (lo+i))::st) H2 k)
  (hd:∀ H2,Same H1 H2->H2 D=some (.lst ((List.range n).map f))->Q (.ref D) H2):CompGo (Itr lo n) te st D H1 Q:=by
 have same:∀ {H2:Hp}{o:HO},Same H1 H2->Same H1 (upd H2 D o):=λ {H2 o} h b u e=>by rw[upd_ne (ne_of_none e hD)];exact h b u e
 refine⟨λ i m ys H2=>m=n-i/\i<=n/\ys=(List.range i).map f/\Same H1 H2/\H2 D=some (.lst ys),⟨n,by simp,Nat.zero_le _,rfl,same (Same.refl H1),upd_same⟩,?_⟩
 rintro i m ys H2 ⟨rfl,hi,rfl,sm,e⟩
 by_cases hlt:i<n
 ·refine .inr ⟨hlt,λ x H3 y=>?_⟩
  obtain⟨e1,e2⟩:=y
  subst e1 e2
  have ln:((List.range i).map f).length=i:=by rw[List.length_map,List.length_range]
  refine hs i _ _ hlt sm λ H4 s4=>⟨s4 _ _ e,by rw[ln];omega,n-(i+1),by omega,rfl,hlt,?_,same (sm.trans s4),upd_same⟩
  rw[List.range_succ,List.map_append]<;>rfl
 ·have ei:i=n:=by omega
  subst ei
  exact .inl ⟨Nat.le_refl _,hd _ sm e⟩
structure CompOk (X:Cx) (x:Str) (ts:List (Str×Nat)) (scope:Scope) (cl:List (Str×Addr)):Prop where
 clos:closureFor scope X.env=pure cl
 sub:∀ y c,cl.lookup y=some c->X.env.cells.lookup y=some c
 nocell:(scope.names.all λ p=>p.2 != .cell)=true
 kind:scope.kind=.function
 locs:(scope.names.all λ p=>p.2 != .local || scope.names.lookup p.1 == some .local)=true
 var:scope.names.lookup x=some .local
 nd:(x::ts.map (·.1)).Nodup
 around:(ts.all λ p=>decide (X.N[p.2]? = some p.1) && (X.env.kindOf p.1 == some .cell || X.env.kindOf p.1 == some .free) && (cl.lookup p.1).isSome &&
  ((relabel scope X.env).names.lookup p.1 == some .cell || (relabel scope X.env).names.lookup p.1 == some .free))=true
 has:((relabel scope X.env).names.all λ p=>!(p.2 == .cell || p.2 == .free) || (cl.lookup p.1).isSome)=true
noncomputable abbrev nmsOf (x:Str) (ts:List (Str×Nat)):List Str:=x::ts.map (·.1)
noncomputable abbrev sltOf (ts:List (Str×Nat)):List Nat:=ts.map (·.2)
theorem CompOk.nocell' {X:Cx}{x:Str}{ts:List (Str×Nat)}{scope:Scope}{cl:List (Str×Addr)} (O:CompOk X x ts scope cl):∀ y∈scope.names,y.2≠.cell:=λ y hy e=>by
 have:=List.all_eq_true.mp O.nocell y hy
 rw[e] at this
 cases this
theorem CompOk.locs' {X:Cx}{x:Str}{ts:List (Str×Nat)}{scope:Scope}{cl:List (Str×Addr)} (O:CompOk X x ts scope cl):∀ y∈scope.names,y.2=.local->scope.names.lookup y.1=some .local:=λ y hy e=>by
 have h:=List.all_eq_true.mp O.locs y hy
 rw[e] at h
 rcases Bool.or_eq_true_iff.mp h with z | z
 ·cases z
 ·exact beq_iff_eq.mp z
theorem CompOk.from' {X:Cx}{x:Str}{ts:List (Str×Nat)}{scope:Scope}{cl:List (Str×Addr)} (O:CompOk X x ts scope cl):∀ (i:Nat) (y:Str),(nmsOf x ts)[i+1]? = some y->∃ j,(sltOf ts)[i]? = some j/\X.N[j]? = some y/\(X.env.kindOf y=some .cell∨X.env.kindOf y=some .free)/\(cl.lookup y).isSome=true /\
  ((relabel scope X.env).names.lookup y=some .cell∨(relabel scope X.env).names.lookup y=some .free):=λ i y e=>by
 have e1:(ts.map (·.1))[i]? = some y:=by simpa using e
 rw[List.getElem?_map] at e1
 cases q:ts[i]? with
 | none=>rw[q] at e1;cases e1
 | some p =>
  rw[q] at e1
  have e2:p.1=y:=Option.some.inj e1
  subst e2
  have h:=List.all_eq_true.mp O.around p (List.mem_of_getElem? q)
  simp only[Bool.and_eq_true,Bool.or_eq_true,beq_iff_eq,decide_eq_true_eq] at h
  obtain⟨⟨⟨h1,h2⟩,h3⟩,h4⟩:=h
  refine⟨p.2,?_,h1,h2,h3,h4⟩
  show (ts.map (·.2))[i]? = some p.2
  rw[List.getElem?_map,q]<;>rfl
theorem CompOk.has' {X:Cx}{x:Str}{ts:List (Str×Nat)}{scope:Scope}{cl:List (Str×Addr)} (O:CompOk X x ts scope cl):∀ y,((relabel scope X.env).names.lookup y=some .cell∨(relabel scope X.env).names.lookup y=some .free)->(cl.lookup y).isSome=true:=λ y h=>by
 have go:∀ k:NameKind,(k=.cell∨k=.free)->(relabel scope X.env).names.lookup y=some k->(cl.lookup y).isSome=true:=λ k hk e=>by
  have z:=List.all_eq_true.mp O.has (y,k) (PySem.mem_of_lookup e)
  rcases Bool.or_eq_true_iff.mp z with z | z
  ·rcases hk with e | e<;>(rw[e] at z;cases z)
  ·exact z
 rcases h with h | h
 ·exact go _ (.inl rfl) h
 ·exact go _ (.inr rfl) h
section
variable {X:Cx}{elt iter:Expr}{x:Str}{px pos:Pos}{scope:Scope}{cl:List (Str×Addr)}{ts:List (Str×Nat)}{wi:TI}{te:TE}
theorem comp_ok {pins:List (Addr×Obj)}{σ:St}{H3:Hp}{s3:Shared}{fp:List Addr} (O:CompOk X x ts scope cl) (I3:Inv X pins σ H3 s3) (hfp:∀ b∈fp,FpOk X pins H3 b/\b<s3.heap.objs.size) :
  (cxComp X (nmsOf x ts) scope cl s3.heap.objs.size s3 H3 fp).Ok where
 mod:=I3.ok.mod
 kind:=O.kind
 glob:=I3.ok.glob
 blt:=I3.ok.blt
 above:=Nat.le_refl _
 inj:=λ y z c h1 h2=>I3.ok.inj y z c (O.sub y c h1) (O.sub z c h2)
 has:=λ y h=>Option.isSome_iff_exists.mp (O.has' y h)
 cab:=λ y c h=>by cases h
 hd:=I3.ok.hd
 frames:=I3.ok.frames
 stk:=.inl rfl
 exf:=λ b hb=>⟨Nat.ne_of_lt (hfp b hb).2,λ y c e=>(hfp b hb).1.2.2.2.2.1 y c (O.sub y c e)⟩
 bs:=λ b o e=>I3.bs b o e
 bsz:=Nat.le_trans I3.ok.bsz I3.sz
 noex:=λ b o e hb=>by
  rcases (hfp b hb).1.2.2.2.1 with z | z
  ·exact I3.ok.noex b o e z
  ·exact absurd (Nat.lt_of_lt_of_le (Heap.lt_size (I3.ok.bs b o e).1) z) (Nat.lt_irrefl _)
 exfs:=λ b hb hz=>by
  rcases List.mem_cons.mp (I3.stkSub b hz) with e | e
  ·exact (hfp b hb).1.2.1 e
  ·exact (hfp b hb).1.2.2.1 e
 funs:=I3.stack
 frf:=I3.stkFree
theorem comp_start {pins:List (Addr×Obj)}{σ:St}{H3:Hp}{s3:Shared}{fp:List Addr}{h1:Heap}{tk:Nat} (O:CompOk X x ts scope cl) (I3:Inv X pins σ H3 s3) (hfp:∀ b∈fp,FpOk X pins H3 b/\b<s3.heap.objs.size)
  (hns:h1.Ns s3.heap.objs.size λ _=>none) (old:∀ b o,s3.heap.get? b=some o->h1.get? b=some o) :
  Inv (cxComp X (nmsOf x ts) scope cl s3.heap.objs.size s3 H3 fp) [] (none::taken σ (sltOf ts)) H3 {s3 with heap:=h1,toks:=tk}:=by
 refine⟨comp_ok O I3 hfp,rfl,I3.bare,Un.kept old,⟨_,hns,λ i y v e1 e2 e3=>?_⟩,λ y c e=>?_,I3.hok.fresh (Nat.le_refl _),λ y c e=>I3.freeC y c (O.sub y c e),λ p hp=>absurd (show p∈([]:List (Addr×Obj)) from hp) (by simp),I3.hok.kept old,?_⟩
 ·cases i with
  | zero=>simp at e2
  | succ i =>
   obtain⟨j,hj,hN,hk,hcl,hk2⟩:=O.from' i y e1
   have e2':σ[j]? = some (some v):=by
    have q:(taken σ (sltOf ts))[i]? = some (some v):=by simpa using e2
    unfold taken at q
    rw[List.getElem?_map,hj] at q
    have q':(σ[j]?).getD none=some v:=Option.some.inj q
    cases z:σ[j]? with
    | none=>rw[z] at q';cases q'
    | some w=>rw[z] at q';rw[show w=some v from q']
   obtain⟨m,hn,hl⟩:=I3.loc
   have vis:Vis X.env.scope y:=hk.elim (λ z=>.inr (.inl z)) λ z=>.inr (.inr z)
   obtain⟨u,r,l⟩:=hl j y v hN e2' vis
   obtain⟨c,hc⟩:=Option.isSome_iff_exists.mp hcl
   refine⟨u,r,.inr ⟨hk2,c,hc,?_⟩⟩
   rcases l with ⟨k,_⟩ | ⟨_,c',hc',z⟩
   ·rcases hk with hk | hk
    ·rw[k] at hk;cases hk
    ·rw[k] at hk;cases hk
   ·rw[O.sub y c hc] at hc'
    cases hc'
    obtain⟨o,ho,hd⟩:=z
    exact⟨o,old c o ho,hd⟩
 ·obtain⟨v,o,ho,hd⟩:=I3.cell y c (O.sub y c e)
  exact⟨v,o,old c o ho,hd⟩
 ·show (none::taken σ (sltOf ts)).length=(nmsOf x ts).length
  simp [taken]
theorem pe_comp (hc:X.calm=true) (O:CompOk X x ts scope cl) (hi:PI X (.Name x px) iter wi) (he:∀ C s3 H3 fp,PE (cxComp X (nmsOf x ts) scope cl C s3 H3 fp) elt te)
  (hs:∀ x,foldedSetIterable iter X.env x=pure x:=by intro _;rfl):PE X (.ListComp elt [⟨.Name x px,iter,[],0⟩] scope pos) (tComp wi (sltOf ts) te):=by
 intro pins s σ H Q I h
 rw[eval_ListComp]
 refine wpAny_comprehension_free (use:=none) rfl hs O.clos O.kind O.locs' (thn (hi pins s σ H _ I h) λ v s1 h1=>thn h1 λ itv s2 h2=>?_)
 obtain⟨it,fp,tn,J,H2,rfl,I2,T,st2,f2,q⟩:=h2
 have hD:H2 s2.heap.objs.size=none:=I2.hok.fresh (Nat.le_refl _)
 obtain⟨W,⟨m0,w0⟩,turn⟩:=q s2.heap.objs.size hD
 refine wpAny_newObj_type ?_
 have I3:Inv X pins σ (upd H2 s2.heap.objs.size (.lst [])) {s2 with heap:=s2.heap.push {cls:=.type "list",dict:=none,data:=.seq ([]:List Value).toArray}} :=
  I2.laid (a:=s2.heap.objs.size) (o:=.lst []) (t':=s2.toks) (λ b u e=>Heap.get?_push_of_some _ e) (Nat.le_refl _) ⟨Nat.zero_le _,[],0,.nil,Heap.get?_push_size _ rfl⟩
 generalize hs3:({s2 with heap:=s2.heap.push {cls:=.type "list",dict:=none,data:=.seq ([]:List Value).toArray}}:Shared)=s3 at I3
 have sz3:s3.heap.objs.size=s2.heap.objs.size+1:=by rw[<-hs3,Heap.size_push]
 have old3:∀ b u,s2.heap.get? b=some u->s3.heap.get? b=some u:=λ b u e=>by rw[<-hs3];exact Heap.get?_push_of_some _ e
 generalize hH3:upd H2 s2.heap.objs.size (.lst [])=H3 at I3 w0
 have H3D:H3 s2.heap.objs.size=some (.lst []):=by rw[<-hH3];exact upd_same
 have fp2:∀ b∈fp,b<s2.heap.objs.size:=λ b hb=>by
  obtain⟨o,e,_⟩:=T.obj _ _ st2 b hb
  exact Heap.lt_size e
 have hfp:∀ b∈fp,FpOk X pins H3 b/\b<s3.heap.objs.size:=λ b hb=>by
  refine⟨⟨?_,(f2 b hb).2⟩,by rw[sz3];exact Nat.lt_succ_of_lt (fp2 b hb)⟩
  rw[<-hH3,upd_ne (Nat.ne_of_lt (fp2 b hb))]
  exact (f2 b hb).1
 refine wpAny_newFunctionEnv O.nocell' (by intro y hy;simp at hy) (λ h₁ hns₁ hsb₁=>?_) O.kind
 have old:∀ b o,s3.heap.get? b=some o->h₁.get? b=some o:=λ b o e=>hsb₁.extBut b o (Nat.ne_of_lt (Heap.lt_size e)) (Heap.get?_push_of_some _ e)
 have start:Inv (cxComp X (nmsOf x ts) scope cl s3.heap.objs.size s3 H3 fp) [] (none::taken σ (sltOf ts)) H3 {s3 with heap:=h₁,toks:=s3.toks+0}:=comp_start O I3 hfp hns₁ old
 have st4:tn 0 h₁:=T.keep _ _ _ st2 λ b hb o e=>old b o (old3 b o e)
 have okX:∀ {H':Hp},(∀ b∈fp,H' b=none)->∀ b∈fp,FpOk (cxComp X (nmsOf x ts) scope cl s3.heap.objs.size s3 H3 fp) [] H' b:=λ hn b hb=>by
  refine⟨hn b hb,Nat.ne_of_lt (hfp b hb).2,λ z=>?_,.inl hb,λ y c e=>(f2 b hb).2.2.2.2.1 y c (O.sub y c e),λ p hp=>absurd (show p∈([]:List (Addr×Obj)) from hp) (by simp)⟩
  rcases List.mem_cons.mp (I3.stkSub b z) with e | e
  ·exact (f2 b hb).2.1 e
  ·exact (f2 b hb).2.2.1 e
 have loop:∀ s₄:Shared,s₄={s3 with heap:=h₁,toks:=s3.toks+0} ->
   codeAny (model X.prog X.w) X.A (.compLoop (.ListComp elt [⟨.Name x px,iter,[],0⟩] scope pos) 0 (.ref it) (.ref s2.heap.objs.size) (compEnvC scope cl s3.heap.objs.size X.env))
    (compPost (model X.prog X.w) X.A X.xe none (EP X pins σ Q) (.ref s2.heap.objs.size) s3.heap.objs.size) s₄:=by
  rintro s₄ rfl
  refine compLoop_any (λ n s'=>∃ i ys σ0 H',Inv (cxComp X (nmsOf x ts) scope cl s3.heap.objs.size s3 H3 fp) [] (σ0::taken σ (sltOf ts)) H' s'/\tn i s'.heap/\(∀ b∈fp,H' b=none)/\W i n ys H') ?_ m0
   ⟨0,[],none,H3,start,st4,λ b hb=>(hfp b hb).1.1,w0⟩
  rintro n s5 ⟨i,ys,σ0,H5,I5,st5,fr5,w5⟩
  rcases turn i n ys H5 w5 with ⟨stop,qn⟩ | ⟨go,step⟩
  ·refine thn (T.done (cxComp X (nmsOf x ts) scope cl s3.heap.objs.size s3 H3 fp) rfl rfl rfl hc i [] s5 (σ0::taken σ (sltOf ts)) H5 _ I5 (okX fr5) st5 stop) λ r s6 ⟨hr,I6⟩=>?_
   subst hr
   obtain⟨m,hn,_⟩:=id I6.loc
   refine⟨m,hn,λ h' sb=>?_⟩
   have u6:Un (frs X.stack) fp H3 H5 s3.heap s6.heap:=I6.base
   have neC:∀ b o,s3.heap.get? b=some o->b≠s3.heap.objs.size:=λ b o e=>Nat.ne_of_lt (Heap.lt_size e)
   have un:Un (frs X.stack) fp H3 H5 s3.heap h':=⟨λ b o e n1 hb hx=>(sb.2 b (neC b o e)).trans (u6.keep b o e n1 hb hx),λ b o e n1 hb hx=>by
     obtain⟨sl,z⟩:=u6.slot b o e n1 hb hx
     exact⟨sl,(sb.2 b (neC b o e)).trans z⟩,u6.free,λ b o e hx=>by
     obtain⟨o',z⟩:=u6.there b o e hx
     exact⟨o',(sb.2 b (neC b o e)).trans z⟩,u6.tups,u6.frzs,u6.tbls⟩
   have hok:HOk X.prog X.w H5 h':=λ b u e=>by
    refine (I6.hok b u e).stay (λ c v hc' z=>(sb.2 c ?_).trans z) (λ _ z=>z) λ _ _ z=>z
    rintro rfl
    have fC:H5 s3.heap.objs.size=none:=I6.free
    rcases hc' with z' | z'
    ·rw[<-z',fC] at e;cases e
    ·rw[fC] at z';cases z'
   refine⟨.ref s2.heap.objs.size,H5,I3.call' (s':={s6 with heap:=h'}) (ch:=fp) ?_ un hok I6.bare (λ b hb=>⟨(f2 b hb).2.2.2.1,(f2 b hb).2.1,(f2 b hb).2.2.2.2.1,(f2 b hb).2.2.2.2.2⟩),rfl,qn⟩
   exact I6.os
  ·refine thn (T.item (cxComp X (nmsOf x ts) scope cl s3.heap.objs.size s3 H3 fp) rfl rfl rfl hc i [] s5 (σ0::taken σ (sltOf ts)) H5 _ I5 (okX fr5) st5 go) λ r s6 ⟨u,hr,h6⟩=>?_
   subst hr
   refine thn h6 λ _ s7 ⟨z,H7,I7,rz,yz,st7,fr7⟩=>?_
   have I7':=I7.pinned (okX fr7) (T.obj _ _ st7)
   have PG':PG (cxComp X (nmsOf x ts) scope cl s3.heap.objs.size s3 H3 fp) (.Name x px) (gName 0):=pg_name (i:=0) O.nd rfl (.inl (lookup_relabel_local O.var)) (.inr (lookup_relabel_local O.var))
   refine thn (PG' _ s7 _ H7 z u (λ σ' H'=>σ'=some z::taken σ (sltOf ts)/\H'=H7) I7' rz ⟨rfl,rfl⟩) λ _ s8 ⟨σ8,H8,I8,e8,eh8⟩=>?_
   subst e8 eh8
   refine thn (he s3.heap.objs.size s3 H3 fp _ s8 _ H8 _ I8 (step z H8 yz)) λ y s9 ⟨vy,H9,I9,ry,hD9,hl9,m',hm',w9⟩=>?_
   refine thn (mt_append (X:=cxComp X (nmsOf x ts) scope cl s3.heap.objs.size s3 H3 fp) _ s9 _ H9 (.ref s2.heap.objs.size) [vy] (.ref s2.heap.objs.size) [y] (λ _ H10=>H10=upd H9 s2.heap.objs.size (.lst (ys++[vy]))) I9 rfl (.cons ry .nil) ⟨_,ys,vy,rfl,rfl,hD9,hl9,rfl⟩) λ _ s10 ⟨_,H10,I10,_,e10⟩=>?_
   subst e10
   refine⟨m',hm',i+1,ys++[vy],some z,_,I10.unpinned,T.keep _ _ _ st7 λ b hb o e=>(I10.pin (b,o) (List.mem_append_right _ (List.mem_append_right _ (mem_pinsAt hb e)))).1,λ b hb=>?_,w9⟩
   obtain⟨o,e,d⟩:=T.obj _ _ st7 b hb
   exact (I10.pin (b,o) (List.mem_append_right _ (List.mem_append_right _ (mem_pinsAt hb e)))).2.1
 have hst:=codeAny_compStart_list (loop _ rfl) (T.self X.A 0 _ _ _ st4 (loop _ rfl))
 exact hst
end
end L2
set_option maxHeartbeats 4000000
namespace L2
open PySem PySem.Spec PyProof.Rows
inductive Th where
 | non | bl (b:Bool) | int (i:Int) | str (x:Str) | lst (xs:List Th) | tup (xs:List Th) | emp | dic
mutual
noncomputable def Den (H:Hp):Th->V->Prop
 | .non,v=>v=.non
 | .bl b,v=>v=.bl b
 | .int i,v=>v=.int i
 | .str x,v=>v=.str x
 | .lst ts,v=>∃ a xs,v=.ref a/\H a=some (.lst xs)/\Dens H ts xs
 | .tup ts,v=>∃ a xs,v=.ref a/\H a=some (.tup xs)/\Dens H ts xs
 | .emp,v=>∃ a,v=.ref a/\H a=some (.dK [])
 | .dic,v=>∃ a kvs,v=.ref a/\H a=some (.dK kvs)
noncomputable def Dens (H:Hp):List Th->List V->Prop
 | [],xs=>xs = []
 | t::ts,xs=>∃ y ys,xs=y::ys/\Den H t y/\Dens H ts ys
end
mutual
theorem Den.keep {H H':Hp} (s:Same H H'):∀ {t:Th}{v:V},Den H t v->Den H' t v
 | .non,_,h=>h
 | .bl _,_,h=>h
 | .int _,_,h=>h
 | .str _,_,h=>h
 | .lst _,_,⟨a,xs,e,h,d⟩=>⟨a,xs,e,s _ _ h,Dens.keep s d⟩
 | .tup _,_,⟨a,xs,e,h,d⟩=>⟨a,xs,e,s _ _ h,Dens.keep s d⟩
 | .emp,_,⟨a,e,h⟩=>⟨a,e,s _ _ h⟩
 | .dic,_,⟨a,k,e,h⟩=>⟨a,k,e,s _ _ h⟩
theorem Dens.keep {H H':Hp} (s:Same H H'):∀ {ts:List Th}{xs:List V},Dens H ts xs->Dens H' ts xs
 | [],_,h=>h
 | _::_,_,⟨y,ys,e,d,ds⟩=>⟨y,ys,e,Den.keep s d,Dens.keep s ds⟩
end
theorem Dens.len {H:Hp}:∀ {ts:List Th}{xs:List V},Dens H ts xs->xs.length=ts.length
 | [],_,h=>by rw[show _ = [] from h];rfl
 | _::_,_,⟨y,ys,e,d,ds⟩=>by rw[e,List.length_cons,List.length_cons,Dens.len ds]
theorem Dens.get {H:Hp}:∀ {ts:List Th}{xs:List V}{i:Nat}{t:Th},Dens H ts xs->ts[i]? = some t->∃ v,xs[i]? = some v/\Den H t v
 | _::_,_,0,t,⟨y,ys,e,d,ds⟩,h=>by
  rw[List.getElem?_cons_zero] at h
  cases h
  exact⟨y,by rw[e];rfl,d⟩
 | _::_,_,i+1,t,⟨y,ys,e,d,ds⟩,h=>by
  rw[List.getElem?_cons_succ] at h
  obtain⟨v,h1,h2⟩:=Dens.get ds h
  exact⟨v,by rw[e,List.getElem?_cons_succ];exact h1,h2⟩
noncomputable def tyTh:Th->Value
 | .non=>.type "NoneType"
 | .bl _=>.type "bool"
 | .int _=>.type "int"
 | .str _=>.type "str"
 | .lst _=>.type "list"
 | .tup _=>.type "tuple"
 | .emp=>.type "dict"
 | .dic=>.type "dict"
theorem Den.ty {K:PySem.W.Frag}{H:Hp}:∀ {t:Th}{v:V},Den H t v->TyOf K H v (tyTh t)
 | .non,_,h=>by cases (show _=V.non from h);exact .non
 | .bl b,_,h=>by cases (show _=V.bl b from h);exact .bl b
 | .int i,_,h=>by cases (show _=V.int i from h);exact .int i
 | .str x,_,h=>by cases (show _=V.str x from h);exact .str x
 | .lst _,_,⟨a,xs,e,h,_⟩=>by subst e;exact .lst h
 | .tup _,_,⟨a,xs,e,h,_⟩=>by subst e;exact .tup h
 | .emp,_,⟨a,e,h⟩=>by subst e;exact .dK h
 | .dic,_,⟨a,k,e,h⟩=>by subst e;exact .dK h
noncomputable def isIntT:Th->Bool
 | .int _=>true
 | .bl _=>true
 | _=>false
noncomputable def isBoolT:Th->Bool
 | .bl _=>true
 | _=>false
noncomputable def isTupT:Th->Bool
 | .tup _=>true
 | _=>false
noncomputable def isLstT:Th->Bool
 | .lst _=>true
 | _=>false
theorem kit_int {K:PySem.W.Frag} (t:Th):PySem.W.kitOne K (tyTh t) (.type "int")=some (isIntT t):=by cases t<;>rfl
theorem kit_bool {K:PySem.W.Frag} (t:Th):PySem.W.kitOne K (tyTh t) (.type "bool")=some (isBoolT t):=by cases t<;>rfl
theorem kit_tuple {K:PySem.W.Frag} (t:Th):PySem.W.kitOne K (tyTh t) (.type "tuple")=some (isTupT t):=by cases t<;>rfl
section
variable {X:Cx}
theorem kitx_ty {pins:List (Addr×Obj)}{σ:St}{H:Hp}{s:Shared}{t:Th}{x:V}{u:Value} (I:Inv X pins σ H s) (rx:RelV x u) (d:Den H t x):∃ HP:Heap->Prop,PySem.W.KitX X.K u (tyTh t) HP/\HP s.heap/\u≠.builtin "__main__.__loader__#opaque":=by
 cases t with
 | non=>cases (show x=V.non from d);cases (show u=Value.none from rx);exact⟨_,PySem.W.kitx_none,True.intro,λ z=>nomatch z⟩
 | bl b=>cases (show x=V.bl b from d);cases (show u=Value.bool b from rx);exact⟨_,PySem.W.kitx_bool,True.intro,λ z=>nomatch z⟩
 | int i=>cases (show x=V.int i from d);obtain⟨k,q⟩:=(show ∃ k,u=Value.int i k from rx);cases q;exact⟨_,PySem.W.kitx_int,True.intro,λ z=>nomatch z⟩
 | str y=>cases (show x=V.str y from d);obtain⟨k,q⟩:=(show ∃ k,u=Value.str y k from rx);cases q;exact⟨_,PySem.W.kitx_str,True.intro,λ z=>nomatch z⟩
 | lst ts =>
  obtain⟨a,xs,e,h,_⟩:=d
  subst e
  cases (show u=Value.ref a from rx)
  obtain⟨_,_,n,_,h1⟩:=(show ObjOk X.prog X.w H s.heap a (.lst xs) from I.hok a _ h)
  exact⟨_,PySem.W.kitx_list,⟨_,h1,rfl⟩,λ z=>nomatch z⟩
 | tup ts =>
  obtain⟨a,xs,e,h,_⟩:=d
  subst e
  cases (show u=Value.ref a from rx)
  obtain⟨_,_,_,p⟩:=(show ObjOk X.prog X.w H s.heap a (.tup xs) from I.hok a _ h)
  obtain⟨o,h1,h2,_⟩:=p
  exact⟨_,PySem.W.kitx_tuple,⟨o,h1,h2⟩,λ z=>nomatch z⟩
 | emp =>
  obtain⟨a,e,h⟩:=d
  subst e
  cases (show u=Value.ref a from rx)
  obtain⟨_,_,vs,_,p⟩:=(show ObjOk X.prog X.w H s.heap a (.dK []) from I.hok a _ h)
  obtain⟨o,es,ep,h1,h2,_⟩:=p
  exact⟨_,PySem.W.kitx_dict,⟨o,h1,h2.1⟩,λ z=>nomatch z⟩
 | dic =>
  obtain⟨a,kvs,e,h⟩:=d
  subst e
  cases (show u=Value.ref a from rx)
  obtain⟨_,_,vs,_,p⟩:=(show ObjOk X.prog X.w H s.heap a (.dK kvs) from I.hok a _ h)
  obtain⟨o,es,ep,h1,h2,_⟩:=p
  exact⟨_,PySem.W.kitx_dict,⟨o,h1,h2.1⟩,λ z=>nomatch z⟩
theorem vals_tys:∀ {Ts:List String}{us:List Value},Vals (Ts.map V.ty) us->us=Ts.map Value.type
 | [],_,.nil=>rfl
 | T::Ts,_,.cons r t=>by rw[vals_tys t,show _=Value.type T from r];rfl
theorem call_isinstT:CallR X (.builtin "isinstance") (λ xs H Q=>∃ (x:V) (p:Addr) (t:Th) (Ts:List String) (b:Bool),xs = [x,.ref p]/\H p=some (.tup (Ts.map V.ty))/\Den H t x/\PySem.W.kitAny X.K (tyTh t) (Ts.map Value.type)=some b/\Q (.bl b) H):=by
 intro pins s σ H xs us Q I r h
 obtain⟨x,p,t,Ts,b,rfl,hp,d,e,q⟩:=h
 obtain⟨u,w',rfl,r1,r2⟩:=vals2 r
 cases r2
 obtain⟨HP,Z,hz,hx⟩:=kitx_ty I r1 d
 obtain⟨_,its,rv,tp⟩:=(show ObjOk X.prog X.w H s.heap p (.tup (Ts.map V.ty)) from I.hok p _ hp)
 have ei:=vals_tys rv
 subst ei
 obtain⟨⟨cls,dd,data,sl⟩,h1,h2,n,h3⟩:=tp
 simp only at h2 h3
 subst h2 h3
 exact PySem.W.kia_tup Z I.kIn hz h1 e hx λ tk=>⟨.bl b,H,I.tok _,rfl,q⟩
theorem call_isinstD:CallR X (.builtin "isinstance") (λ xs H Q=>∃ x t T b,xs = [x,.ty T]/\Den H t x/\PySem.W.kitOne X.K (tyTh t) (.type T)=some b/\Q (.bl b) H):=by
 intro pins s σ H xs us Q I r h
 obtain⟨x,t,T,b,e,d,k,q⟩:=h
 exact call_isinst pins s σ H xs us Q I r ⟨x,tyTh t,T,b,e,d.ty,k,q⟩
theorem range_all_true (n:Nat):((List.range n).all λ _=>true)=true:=List.all_eq_true.mpr λ _ _=>rfl
theorem dict_nil_any {P P':Program}{w w':World}{h:Heap}{a:Addr} (d:h.DictOf (mixKind P w) a []):h.DictOf (mixKind P' w') a []:=by
 obtain⟨o,es,ep,h1,h2,h3,h4,h5,h6⟩:=d
 have e:es=#[]:=by
  have hl:es.toList.length=0:=by
   have:=h5.length
   simpa using this
  cases es with | mk l=>cases l with
   | nil=>rfl
   | cons x r=>simp at hl
 subst e
 exact⟨o,#[],ep,h1,h2,h3,(by intro z hz;simp at hz),.nil,List.nodup_nil⟩
mutual
noncomputable def depT:Th->Nat
 | .lst ts=>depTs ts+1
 | .tup ts=>depTs ts+1
 | .emp=>1
 | .dic=>cLine+1
 | .non | .bl _ | .int _ | .str _=>0
noncomputable def depTs:List Th->Nat
 | []=>0
 | t::ts=>max (depT t) (depTs ts)
end
theorem depTs_mem:∀ {ts:List Th}{i:Nat}{t:Th},ts[i]? = some t->depT t<=depTs ts
 | _::_,0,_,h=>by
  rw[List.getElem?_cons_zero] at h
  cases h
  exact Nat.le_max_left _ _
 | _::_,_+1,_,h=>by
  rw[List.getElem?_cons_succ] at h
  exact Nat.le_trans (depTs_mem h) (Nat.le_max_right _ _)
theorem dens_at {H:Hp}{ts:List Th}{xs ys:List V}{us ws:List Value} (d1:Dens H ts xs) (d2:Dens H ts ys) (r1:Vals xs us) (r2:Vals ys ws) (j:Nat) (h1:j<us.toArray.size) (h2:j<ws.toArray.size) :
  ∃ t v1 v2,ts[j]? = some t/\Den H t v1/\Den H t v2/\RelV v1 us.toArray[j]/\RelV v2 ws.toArray[j]:=by
 have hl:j<ts.length:=by
  rw[<-d1.len,r1.length]
  simpa using h1
 obtain⟨v1,e1,q1⟩:=d1.get (List.getElem?_eq_getElem hl)
 obtain⟨v2,e2,q2⟩:=d2.get (List.getElem?_eq_getElem hl)
 obtain⟨u1,f1,g1⟩:=r1.get e1
 obtain⟨u2,f2,g2⟩:=r2.get e2
 have k1:us.toArray[j]=u1:=by
  have:us[j]? = some us.toArray[j]:=by simp
  rw[this] at f1;exact Option.some.inj f1
 have k2:ws.toArray[j]=u2:=by
  have:ws[j]? = some ws.toArray[j]:=by simp
  rw[this] at f2;exact Option.some.inj f2
 exact⟨ts[j],v1,v2,List.getElem?_eq_getElem hl,q1,q2,by rw[k1];exact g1,by rw[k2];exact g2⟩
theorem eqDen {P:Program}{w:World}{H:Hp}{s:Shared} (hok:HOk P w H s.heap):∀ (n:Nat) (A:Around) (t:Th) (v1 v2:V) (u1 u2:Value),depT t<=n->A.units+n<cLine->Den H t v1->Den H t v2->RelV v1 u1->RelV v2 u2->SeqAt.EqAt A s u1 u2 true
 | n,A,.non,v1,v2,u1,u2,_,_,d1,d2,r1,r2=>by
  cases (show v1=V.non from d1);cases (show v2=V.non from d2)
  cases (show u1=Value.none from r1);cases (show u2=Value.none from r2)
  exact SeqAt.EqAt.same _
 | n,A,.bl b,v1,v2,u1,u2,_,_,d1,d2,r1,r2=>by
  cases (show v1=V.bl b from d1);cases (show v2=V.bl b from d2)
  cases (show u1=Value.bool b from r1);cases (show u2=Value.bool b from r2)
  exact SeqAt.EqAt.same _
 | n,A,.int i,v1,v2,u1,u2,_,_,d1,d2,r1,r2=>by
  cases (show v1=V.int i from d1);cases (show v2=V.int i from d2)
  obtain⟨k1,rfl⟩:=(show ∃ k,u1=Value.int i k from r1)
  obtain⟨k2,rfl⟩:=(show ∃ k,u2=Value.int i k from r2)
  have h:=SeqAt.EqAt.int_int (A:=A) (s:=s) i k1 i k2
  rw[beq_self_eq_true] at h
  exact h
 | n,A,.str x,v1,v2,u1,u2,_,_,d1,d2,r1,r2=>by
  cases (show v1=V.str x from d1);cases (show v2=V.str x from d2)
  obtain⟨k1,rfl⟩:=(show ∃ k,u1=Value.str x k from r1)
  obtain⟨k2,rfl⟩:=(show ∃ k,u2=Value.str x k from r2)
  have h:=SeqAt.EqAt.str_str (A:=A) (s:=s) x k1 x k2
  rw[beq_self_eq_true] at h
  exact h
 | 0,A,.lst ts,v1,v2,u1,u2,hd,_,d1,d2,r1,r2=>absurd hd (by simp [depT])
 | 0,A,.tup ts,v1,v2,u1,u2,hd,_,d1,d2,r1,r2=>absurd hd (by simp [depT])
 | 0,A,.emp,v1,v2,u1,u2,hd,_,d1,d2,r1,r2=>absurd hd (by simp [depT])
 | 0,A,.dic,v1,v2,u1,u2,hd,_,d1,d2,r1,r2=>absurd hd (by simp [depT])
 | n+1,A,.dic,v1,v2,u1,u2,hd,hu,d1,d2,r1,r2=>absurd (show cLine+1<=n+1 from hd) (by omega)
 | n+1,A,.lst ts,v1,v2,u1,u2,hd,hu,d1,d2,r1,r2=>by
  obtain⟨a1,xs,rfl,h1,e1⟩:=d1
  obtain⟨a2,ys,rfl,h2,e2⟩:=d2
  cases (show u1=Value.ref a1 from r1);cases (show u2=Value.ref a2 from r2)
  by_cases hne:a1=a2
  ·subst hne;exact SeqAt.EqAt.same _
  obtain⟨_,us,n1,q1,g1⟩:=(show ObjOk P w H s.heap a1 (.lst xs) from hok a1 _ h1)
  obtain⟨_,ws,n2,q2,g2⟩:=(show ObjOk P w H s.heap a2 (.lst ys) from hok a2 _ h2)
  have hsz:us.toArray.size=ws.toArray.size:=by
   rw[List.size_toArray,List.size_toArray,<-q1.length,<-q2.length,e1.len,e2.len]
  have hd':depTs ts+1<=n+1:=hd
  have h:=SeqAt.RcAt.lists (A:=A) (s:=s) (e:=λ _=>true) (⟨_,g1,rfl,_,rfl⟩:s.heap.IsList a1 us.toArray) (⟨_,g2,rfl,_,rfl⟩:s.heap.IsList a2 ws.toArray) hsz (by omega) λ j j1 j2=>by
   obtain⟨t,w1,w2,ht,p1,p2,s1,s2⟩:=dens_at e1 e2 q1 q2 j j1 j2
   exact eqDen hok n A.in1 t w1 w2 _ _ (by have:=depTs_mem ht;omega) (by show A.units+1+n<cLine;omega) p1 p2 s1 s2
  rw[range_all_true] at h
  exact SeqAt.EqAt.of_refs hne h
 | n+1,A,.tup ts,v1,v2,u1,u2,hd,hu,d1,d2,r1,r2=>by
  obtain⟨a1,xs,rfl,h1,e1⟩:=d1
  obtain⟨a2,ys,rfl,h2,e2⟩:=d2
  cases (show u1=Value.ref a1 from r1);cases (show u2=Value.ref a2 from r2)
  by_cases hne:a1=a2
  ·subst hne;exact SeqAt.EqAt.same _
  obtain⟨_,us,q1,g1⟩:=(show ObjOk P w H s.heap a1 (.tup xs) from hok a1 _ h1)
  obtain⟨_,ws,q2,g2⟩:=(show ObjOk P w H s.heap a2 (.tup ys) from hok a2 _ h2)
  have hsz:us.toArray.size=ws.toArray.size:=by
   rw[List.size_toArray,List.size_toArray,<-q1.length,<-q2.length,e1.len,e2.len]
  have hd':depTs ts+1<=n+1:=hd
  have h:=SeqAt.RcAt.tuples (A:=A) (s:=s) (e:=λ _=>true) (show s.heap.IsTuple a1 us.toArray from g1) (show s.heap.IsTuple a2 ws.toArray from g2) (by omega) λ j j1 j2=>by
   obtain⟨t,w1,w2,ht,p1,p2,s1,s2⟩:=dens_at e1 e2 q1 q2 j j1 j2
   exact eqDen hok n A.in1 t w1 w2 _ _ (by have:=depTs_mem ht;omega) (by show A.units+1+n<cLine;omega) p1 p2 s1 s2
  rw[range_all_true,hsz,beq_self_eq_true,Bool.and_self] at h
  exact SeqAt.EqAt.of_refs hne h
 | n+1,A,.emp,v1,v2,u1,u2,hd,hu,d1,d2,r1,r2=>by
  obtain⟨a1,rfl,h1⟩:=d1
  obtain⟨a2,rfl,h2⟩:=d2
  cases (show u1=Value.ref a1 from r1);cases (show u2=Value.ref a2 from r2)
  by_cases hne:a1=a2
  ·subst hne;exact SeqAt.EqAt.same _
  obtain⟨_,m1,vs1,q1,g1⟩:=(show ObjOk P w H s.heap a1 (.dK []) from hok a1 _ h1)
  obtain⟨_,m2,vs2,q2,g2⟩:=(show ObjOk P w H s.heap a2 (.dK []) from hok a2 _ h2)
  cases q1
  cases q2
  refine SeqAt.EqAt.of_refs hne λ prog w' E Q hq=>?_
  exact PySem.W.keq_eq (K:=Key) (knd:=mixKind prog w') (r:=true) m1 m2 (dict_nil_any g1) (dict_nil_any g2) (by omega) (λ _=>.nil) hq
theorem op_neD (hu:X.A.units+64<cLine):OpR X (compareOp .NotEq) (λ x y H Q=>∃ t,Den H t x/\Den H t y/\depT t<=60/\Q (.bl false) H):=by
 intro pins s σ H x y v u Q I rx ry h
 obtain⟨t,d1,d2,hd,q⟩:=h
 have scal_case:scal x y=true->x=y->wpAny (model X.prog X.w) X.A (compareOp .NotEq v u) (EP X pins σ Q) X.xe s:=λ h1 h2 =>
  op_ne pins s σ H x y v u Q I rx ry ⟨h1,by rw[decide_eq_true h2];exact q⟩
 cases t with
 | non=>cases (show x=V.non from d1);cases (show y=V.non from d2);exact scal_case rfl rfl
 | bl b=>cases (show x=V.bl b from d1);cases (show y=V.bl b from d2);exact scal_case rfl rfl
 | int i=>cases (show x=V.int i from d1);cases (show y=V.int i from d2);exact scal_case rfl rfl
 | str z=>cases (show x=V.str z from d1);cases (show y=V.str z from d2);exact scal_case rfl rfl
 | lst ts =>
  obtain⟨a1,xs,rfl,h1,e1⟩:=d1
  obtain⟨a2,ys,rfl,h2,e2⟩:=d2
  cases (show v=Value.ref a1 from rx);cases (show u=Value.ref a2 from ry)
  obtain⟨_,us,n1,q1,g1⟩:=(show ObjOk X.prog X.w H s.heap a1 (.lst xs) from I.hok a1 _ h1)
  obtain⟨_,ws,n2,q2,g2⟩:=(show ObjOk X.prog X.w H s.heap a2 (.lst ys) from I.hok a2 _ h2)
  have hsz:us.toArray.size=ws.toArray.size:=by
   rw[List.size_toArray,List.size_toArray,<-q1.length,<-q2.length,e1.len,e2.len]
  have hd':depTs ts+1<=60:=hd
  have h:=SeqAt.RcNeAt.lists (A:=X.A) (s:=s) (e:=λ _=>true) (⟨_,g1,rfl,_,rfl⟩:s.heap.IsList a1 us.toArray) (⟨_,g2,rfl,_,rfl⟩:s.heap.IsList a2 ws.toArray) hsz (by omega) λ j j1 j2=>by
   obtain⟨t,w1,w2,ht,p1,p2,s1,s2⟩:=dens_at e1 e2 q1 q2 j j1 j2
   exact eqDen I.hok 60 X.A.in1 t w1 w2 _ _ (by have:=depTs_mem ht;omega) (by show X.A.units+1+60<cLine;omega) p1 p2 s1 s2
  rw[range_all_true] at h
  exact h X.prog X.w _ _ ⟨.bl false,H,I,rfl,q⟩
 | tup ts =>
  obtain⟨a1,xs,rfl,h1,e1⟩:=d1
  obtain⟨a2,ys,rfl,h2,e2⟩:=d2
  cases (show v=Value.ref a1 from rx);cases (show u=Value.ref a2 from ry)
  obtain⟨_,us,q1,g1⟩:=(show ObjOk X.prog X.w H s.heap a1 (.tup xs) from I.hok a1 _ h1)
  obtain⟨_,ws,q2,g2⟩:=(show ObjOk X.prog X.w H s.heap a2 (.tup ys) from I.hok a2 _ h2)
  have hsz:us.toArray.size=ws.toArray.size:=by
   rw[List.size_toArray,List.size_toArray,<-q1.length,<-q2.length,e1.len,e2.len]
  have hd':depTs ts+1<=60:=hd
  have h:=SeqAt.RcNeAt.tuples (A:=X.A) (s:=s) (e:=λ _=>true) (show s.heap.IsTuple a1 us.toArray from g1) (show s.heap.IsTuple a2 ws.toArray from g2) (by omega) λ j j1 j2=>by
   obtain⟨t,w1,w2,ht,p1,p2,s1,s2⟩:=dens_at e1 e2 q1 q2 j j1 j2
   exact eqDen I.hok 60 X.A.in1 t w1 w2 _ _ (by have:=depTs_mem ht;omega) (by show X.A.units+1+60<cLine;omega) p1 p2 s1 s2
  rw[range_all_true,hsz,beq_self_eq_true,Bool.and_self] at h
  exact h X.prog X.w _ _ ⟨.bl false,H,I,rfl,q⟩
 | emp =>
  obtain⟨a1,rfl,h1⟩:=d1
  obtain⟨a2,rfl,h2⟩:=d2
  cases (show v=Value.ref a1 from rx);cases (show u=Value.ref a2 from ry)
  obtain⟨_,m1,vs1,q1,g1⟩:=(show ObjOk X.prog X.w H s.heap a1 (.dK []) from I.hok a1 _ h1)
  obtain⟨_,m2,vs2,q2,g2⟩:=(show ObjOk X.prog X.w H s.heap a2 (.dK []) from I.hok a2 _ h2)
  cases q1
  cases q2
  exact PySem.W.keq_ne (K:=Key) (knd:=mixKind X.prog X.w) (r:=true) m1 m2 g1 g2 (by omega) (λ _=>.nil) ⟨.bl false,H,I,rfl,q⟩
 | dic=>exact absurd (show cLine+1<=60 from hd) (by omega)
noncomputable def iSeq (K:PySem.W.Frag) (tl:TE):TI:=λ σ H R=>tl σ H λ x H1=>∃ a xs,x=.ref a/\((SqL K H1 a xs/\R (Itl K a) H1)∨(SqT K H1 a xs/\R (Itt K a) H1))
theorem pi_seq {tg l:Expr}{tl:TE} (hl:PE X l tl):PI X tg l (iSeq X.K tl):=by
 intro pins s σ H R I h
 refine thn (hl pins s σ H _ I h) λ v s1 ⟨x,H1,I1,r1,q1⟩=>?_
 obtain⟨a,xs,e,q⟩:=q1
 subst e
 cases r1
 rcases q with ⟨hq,q⟩ | ⟨hq,q⟩
 ·obtain⟨its,rv,p,hz⟩:=I1.list hq
  refine wpAny_pyIter_list p.isList ?_
  refine⟨s1.heap.objs.size,[s1.heap.objs.size],_,_,H1,rfl,I1.kept (t':=s1.toks) λ b o e=>Heap.get?_push_of_some _ e,turn_list a _,⟨_,Heap.get?_push_size _ rfl,rfl,rfl⟩,λ b hb=>?_,q⟩
  have e:b=s1.heap.objs.size:=by simpa using hb
  subst e
  exact I1.fpOk (Nat.le_refl _) (I1.hok.fresh (Nat.le_refl _))
 ·obtain⟨its,rv,p,hz⟩:=I1.tuple hq
  refine wpAny_pyIter_tuple (show s1.heap.IsTuple a its.toArray from p) ?_
  refine⟨s1.heap.objs.size,[s1.heap.objs.size],_,_,H1,rfl,I1.kept (t':=s1.toks) λ b o e=>Heap.get?_push_of_some _ e,turn_tuple a _,⟨_,Heap.get?_push_size _ rfl,rfl,rfl⟩,λ b hb=>?_,q⟩
  have e:b=s1.heap.objs.size:=by simpa using hb
  subst e
  exact I1.fpOk (Nat.le_refl _) (I1.hok.fresh (Nat.le_refl _))
end
end L2
set_option maxHeartbeats 4000000
namespace L2
open PySem PySem.Spec PyProof.Rows
theorem ObjOk.there {P:Program}{w:World}{H:Hp}{h:Heap}{a:Addr}{o:HO} (k:ObjOk P w H h a o):∃ ob,h.get? a=some ob:=by
 cases o with
 | lst _=>obtain⟨_,_,_,_,e⟩:=k;exact⟨_,e⟩
 | tup _=>obtain⟨_,_,_,o,e,_⟩:=k;exact⟨o,e⟩
 | dK _=>obtain⟨_,_,_,_,o,_,_,e,_⟩:=k;exact⟨o,e⟩
 | dT _=>obtain⟨_,_,_,_,o,_,_,e,_⟩:=k;exact⟨o,e⟩
 | set _ _=>obtain⟨o,_,_,_,e,_⟩:=k;exact⟨o,e⟩
 | ins _ _ _=>obtain⟨_,_,_,e,_⟩:=k;exact⟨_,e⟩
 | own _=>obtain⟨o,e⟩:=k;exact⟨o,e⟩
 | xd _=>obtain⟨_,⟨o,_,_,e,_⟩,_⟩:=k;exact⟨o,e⟩
 | rng _ _=>obtain⟨_,_,_,e⟩:=k;exact⟨_,e⟩
 | frz _ _=>obtain⟨e,_⟩:=k;exact⟨_,e⟩
 | tbl _=>exact⟨_,k⟩
 | met _ _=>exact⟨_,k⟩
 | ext _=>obtain⟨_,⟨o,e⟩,_⟩:=k;exact⟨o,e⟩
noncomputable def Fly (l:List Env) (h0:Heap) (H':Hp) (e:Addr) (cls:Value) (h:Heap):Prop :=
 ∃ (B:Heap) (t:Addr),Heap.FlyingW B l e cls (.ref t) h/\h0.get? e=none/\H' e=none /\
  ∀ b o,h.get? b=some o->((∃ o',h0.get? b=some o')∨∃ u,H' b=some u)->b ∉ frs l->B.get? b=some o
noncomputable def CXX (P:Program) (w:World):CXT:=λ outer H s E e s' =>
 ∃ a cls H',e=.ref a/\s'.os=s.os/\AllBare s'.gens/\Un (frs outer) [] H H' s.heap s'.heap/\HOk P w H' s'.heap/\Fly outer s.heap H' a cls s'.heap/\E cls none H'
theorem cxx_never {P:Program}{w:World}{H:Hp}{s:Shared}{e:Value}{s':Shared}{l:List Env} (h:CXX P w l H s (λ _ _ _=>False) e s'):False:=by
 obtain⟨_,_,_,_,_,_,_,_,_,q⟩:=h
 exact q
theorem fly_keeps {P:Program}{w:World}{fs:List Addr}{l:List Env}{base B h0 h h5:Heap}{H H':Hp} (un:Un fs [] H H' h0 h) (hok:HOk P w H' h)
  (kB:∀ b o,h.get? b=some o->((∃ o',h0.get? b=some o')∨∃ u,H' b=some u)->b ∉ frs l->B.get? b=some o)
  (ff:h.FunFrames base l) (hfs:∀ b∈fs,b∈frs l) (hl:∀ b∈frs l,b ∉ fs->h0.get? b=none) (hu:∀ b∈frs l,H' b=none)
  (st:B.StaysIn h5) (up:h.UpToSlots h5):Un fs [] H H' h0 h5/\HOk P w H' h5:=by
 have kk:∀ b o,h.get? b=some o->(∃ o',h0.get? b=some o')->b ∉ fs->h5.get? b=some o:=λ b o e1 ⟨o',e0⟩ hb=>by
  refine st b o (kB b o e1 (.inl ⟨o',e0⟩) λ z=>?_)
  rw[hl b z hb] at e0;cases e0
 have ks:∀ b o,h.get? b=some o->b∈fs->∃ sl,h5.get? b=some {o with slots:=sl}:=λ b o e1 hb=>by
  obtain⟨_,o2,e2,nf⟩:=ff.mem (hfs b hb)
  rw[e1] at e2;cases e2
  exact up b o e1 nf
 refine⟨⟨λ b o e n hb hx=>kk b o (un.keep b o e n hb hx) ⟨o,e⟩ hb,λ b o e n hb hx=>?_,un.free,λ b o e hx=>?_,un.tups,un.frzs,un.tbls⟩,λ a o e=>?_⟩
 ·obtain⟨s1,e1⟩:=un.slot b o e n hb hx
  obtain⟨s2,e2⟩:=ks b _ e1 hb
  exact⟨s2,e2⟩
 ·obtain⟨o',e1⟩:=un.there b o e hx
  by_cases hb:b∈fs
  ·obtain⟨s2,e2⟩:=ks b _ e1 hb
   exact⟨_,e2⟩
  ·exact⟨o',kk b o' e1 ⟨o,e⟩ hb⟩
 ·have tr:∀ b u v,H' b=some u->h.get? b=some v->h5.get? b=some v:=λ b u v q e1=>st b v (kB b v e1 (.inr ⟨u,q⟩) λ z=>by rw[hu b z] at q;cases q)
  refine (hok a o e).stay (λ b v hb q=>?_) (λ _ q=>q) λ _ _ q=>q
  rcases hb with z | z
  ·subst z;exact tr b o v e q
  ·exact tr b _ v z q
structure DefCx (X:Cx):Prop where
 st:X.stack=X.env::X.outer
 fr:X.env.frame=some X.env.locals
 ex:X.ex = []
section
variable {X:Cx}{pins:List (Addr×Obj)}{σ:St}{H:Hp}{s:Shared}{E:XK}{M:Model}
theorem Inv.gone (I:Inv X pins σ H s) (dx:DefCx X) {e:Addr} (n:s.heap.get? e=none):X.s₀.heap.get? e=none/\H e=none:=by
 constructor
 ·cases q:X.s₀.heap.get? e with
  | none=>rfl
  | some o =>
   obtain⟨o',z⟩:=I.base.there e o q (by rw[dx.ex];simp)
   rw[n] at z;cases z
 ·cases q:H e with
  | none=>rfl
  | some u =>
   obtain⟨o',z⟩:=(I.hok e u q).there
   rw[n] at z;cases z
theorem Inv.notMine (I:Inv X pins σ H s) {b:Addr}{o:Obj} (e:X.s₀.heap.get? b=some o):b≠X.env.locals:=Nat.ne_of_lt (Nat.lt_of_lt_of_le (Heap.lt_size e) I.ok.above)
theorem fly_out (dx:DefCx X) (I:Inv X pins σ H s) {B h':Heap}{e t:Addr}{cls:Value}
  (kB:∀ b o,s.heap.get? b=some o->((∃ o',X.s₀.heap.get? b=some o')∨∃ u,H b=some u)->b ∉ frs X.stack->B.get? b=some o)
  (fw:Heap.FlyingW B X.outer e cls (.ref t) h') (up:s.heap.UpToSlots h') (ne:X.s₀.heap.get? e=none) (hn:H e=none) (q:E cls none H) :
  CXX X.prog X.w X.outer X.H₀ X.s₀ E (.ref e) {s with heap:=h'}:=by
 have un0:Un X.fs [] X.H₀ H X.s₀.heap s.heap:=by have:=I.base;rw[dx.ex] at this;exact this
 have sub:∀ b∈X.fs,b∈frs X.stack:=λ b hb=>by
  rw[dx.st];unfold frs;rw[List.filterMap_cons,dx.fr];exact List.mem_cons_of_mem _ hb
 have hl:∀ b∈frs X.stack,b ∉ X.fs->X.s₀.heap.get? b=none:=λ b hb hn=>by
  rcases List.mem_cons.mp (I.stkSub b hb) with z | z
  ·cases q:X.s₀.heap.get? b with
   | none=>rfl
   | some o=>exact absurd z (I.notMine q)
  ·exact absurd z hn
 obtain⟨un,hok⟩:=fly_keeps (h5:=h') un0 I.hok kB I.stack sub hl I.stkFree fw.1 up
 refine⟨e,cls,H,rfl,I.os,I.bare,un,hok,⟨B,t,fw,ne,hn,λ b o e1 hz hb=>?_⟩,q⟩
 have there:∃ o2,s.heap.get? b=some o2:=by
  rcases hz with ⟨o',z⟩ | ⟨u,z⟩
  ·exact un0.there b o' z (by simp)
  ·exact (I.hok b u z).there
 have nst:b ∉ frs X.stack:=λ z=>by
  rcases List.mem_cons.mp (I.stkSub b z) with y | y
  ·rcases hz with ⟨o',q⟩ | ⟨u,q⟩
   ·exact I.notMine q y
   ·rw[I.stkFree b z] at q;cases q
  ·exact hb y
 obtain⟨o2,e2⟩:=there
 have e3:=kB b o2 e2 hz nst
 have e4:=fw.1 b o2 e3
 have e1':h'.get? b=some o:=e1
 rw[e1'] at e4
 cases e4
 exact e3
theorem leave_made (dx:DefCx X) (I:Inv X pins σ H s) {h1:Heap}{e:Addr}{cls:Value}{args:List Value} (mk:Heap.MadeExcOf s.heap h1 e cls args) (q:E cls none H) {E':Value->Shared->Prop} :
  wpAny M X.A (leaving X.env (.ref e)) (λ _ s2=>CXX X.prog X.w X.outer X.H₀ X.s₀ E (.ref e) s2) E' {s with heap:=h1}:=by
 have hin:∀ env∈X.stack,∀ b,env.frame=some b->b∈frs X.stack:=λ env he b hb=>List.mem_filterMap.mpr ⟨env,he,hb⟩
 have ff:=PySem.W.funFrames_hide I.stack hin
 rw[dx.st] at ff
 obtain⟨n1,n2⟩:=I.gone dx mk.new
 refine wpAny_leaves_madeW (base:=PySem.W.hideAll s.heap (frs (X.env::X.outer))) (h:=s.heap) (by rw[I.ok.frames,dx.st]) dx.fr (λ b o z=>PySem.W.of_hideAll _ z) ff mk λ h' t x1 _ _ x4=>?_
 exact fly_out dx I (λ b o e1 _ hb=>PySem.W.hideAll_get _ e1 (by rw[<-dx.st];exact hb)) x1 ((Heap.UpToSlots.of_keeps mk.keeps).trans x4) n1 n2 q
end
end L2
set_option maxHeartbeats 4000000
namespace L2
open PySem PySem.Spec PyProof.Rows
abbrev vbm:List Value:=[.type "ValueError",.type "Exception",.type "BaseException",.type "object"]
theorem cls_of {K:PySem.W.Frag}{h:Heap}{C:Addr}{nid:String}{bmB:List Value} (kin:K.In h) (z:PySem.W.excIn K C bmB nid=true) :
  ∃ (tl:List Value) (N:Addr) (nm qn:Str) (bs:List Value) (hd:Bool) (sn:List Str) (su:List Value) (ab:Bool) (co:Option Bool) (dd:Option Addr) (k0 k1 k2 k3 k5:Option Value) (mN:Str->Option Value),
   h.get? C=some (excClassObj nm qn C N bs tl hd sn su ab co dd k0 k1 k2 k3 k5 nid)/\h.Ns N mN/\mN "__init__" = none/\OwnTail h bmB tl:=by
 unfold PySem.W.excIn at z
 split at z
 ·rename_i d0 c0 slt lk
  split at z
  ·rename_i C2 tl a0 a1 a2 a3 nn a5 em es
   simp only[Bool.and_eq_true,beq_iff_eq,Bool.not_eq_true'] at z
   obtain⟨⟨⟨⟨⟨y1,y2⟩,y3⟩,y4⟩,y5⟩,y6⟩:=z
   subst y1 y2
   obtain⟨nm,bs,mr,ns,qn,hd,sn,su,ab,co,de⟩:=c0
   dsimp only at em y3 y5 y6
   subst em y3
   have sz:slt=#[a0,a1,a2,a3,some (.builtin nn),a5]:=by
    cases slt with | mk l=>exact congrArg Array.mk es
   subst sz
   exact⟨tl,ns,nm,qn,bs,hd,sn,su,ab,co,d0,a0,a1,a2,a3,a5,_,kin _ _ lk,.of_isNs (PySem.W.isNs_of_in kin y5),PySem.W.nsMap_none_of_in kin y5 y6,PySem.W.tail_of_in kin y4⟩
  ·cases z
 ·cases z
structure XCls (K:PySem.W.Frag) (mg:Str->Option Value) (x:Str) (C:Addr):Prop where
 at_:mg x=some (.ref C)
 ok:PySem.W.excIn K C vbm "ValueError.__new__" = true
section
variable {X:Cx}{E:XK}{x:Str}{C:Addr}{np cpos pos:Pos}{e:Expr}{es:List Expr}{t:TA}
noncomputable def Reach (X:Cx) (E:XK):Prop:=∀ (pins:List (Addr×Obj)) (σ:St) (H:Hp) (s:Shared) (h1:Heap) (e:Addr) (cls:Value) (args:List Value),Inv X pins σ H s->Heap.MadeExcOf s.heap h1 e cls args->E cls none H->X.xe (.ref e) {s with heap:=h1}
noncomputable def tRaise (C:Addr) (E:XK) (t:TA):TS:=λ _ σ H=>t σ H λ vs H1=>vs.length<=sizeLine/\E (.ref C) none H1
theorem ps_raise (hr:Reach X E) (hc:X.calm=true) (xc:XCls X.K X.mg x C) (hg:Gl X x) (ha:PA X (e::es) t)
  (hdb:(x == ("__debug__":Str))=false:=by decide) (he:starEach (e::es) X.env=(false,eval e X.env)::starEach es X.env:=by rfl) (hpl:(backTo cpos (starEach es X.env)).any (·.1)=false:=by rfl) :
  PS X (.Raise (some (.Call (.Name x np) (e::es) [] cpos)) none pos) (tRaise C E t):=by
 intro pins s σ H D I h
 obtain⟨tl,N,nm,qn,bs,hd,sn,su,ab,co,dd,k0,k1,k2,k3,k5,mN,hC,hN,hni,T⟩:=cls_of I.mod.kin xc.ok
 refine wpAny_Raise_call_subT (C:=C) (nm:=nm) (q:=qn) (N:=N) (bs:=bs) (bm:=tl) (hdct:=hd) (sn:=sn) (sub:=su) (ab:=ab) (col:=co) (dd:=dd) (k0:=k0) (k1:=k1) (k2:=k2) (k3:=k3) (k5:=k5)
  PySem.F.excBase_ValueError (mN:=mN) (T.hasType PySem.F.excBase_ValueError.hasBase) (I.ok.hd hc) (by rw[he];show (false || _)=false;exact hpl) hni (ld_glob I hg xc.at_ ⟨rfl,?_⟩ hdb)
 have h2:=ha cpos pins s σ H _ I h
 rw[he] at h2 ⊢
 exact Calls.evalArgs_plain (wpAny_mono h2 (λ us s2 ⟨vs,H1,I1,rv,hl,q⟩=>⟨rfl,by rw[<-rv.length];exact hl,I1.bk _ _ hC,hN.keeps I1.bk,T.keeps I1.bk,λ h' e mk=>hr pins σ H1 s2 h' e _ us I1 mk q⟩) λ _ _ y=>y)
end
section
variable {P:Program}{w:World}{K:PySem.W.Frag}{mg:Str->Option Value}{base:Heap}{N:List Str}{qual:Str}{scope:Scope}{f:Addr}{cd:Value}{A:Around}{outer:List Env}{s:Shared}{H:Hp}{E:XK}
theorem dxOf {CX:CXT}:DefCx (cxOf CX P w K mg base N qual scope f cd A outer s H E):=⟨rfl,rfl,rfl⟩
theorem reachOf:Reach (cxOf (CXX P w) P w K mg base N qual scope f cd A outer s H E) E:=λ _ _ _ _ _ _ _ _ I mk q=>leave_made dxOf I mk q
theorem Fun.okX {x:Str}{st:Stmt}{fd:FuncData}{ps:List Str}{k:Nat}{sp:Sp} (F:Fun K x qual st f fd) (S:FnScope N ps (defScope st)) (len:∀ vs H Q E,sp vs H Q E->vs.length=ps.length)
  (hbody:∀ (cdv:Value) (A:Around) (outer:List Env) (s:Shared) (H:Hp) (vs:List V) (Q:VK) (E:XK),Room k (A.deeper (envOfC qual (defScope st) s.heap.objs.size f cdv))->sp vs H Q E ->
   ∃ t,PSs (cxOf (CXX P w) P w K mg base N qual (defScope st) f cdv A outer s H E) (defBody st) t/\t {nx:=λ _ H'=>Q .non H',rt:=Q} (start N vs) H):FnOk P w K mg base (CXX P w) (k+1) f fd ps sp:=by
 obtain⟨oc,od,kV,doc,pm,an,cdv,ct,osl,rfl,lk,hcd⟩:=F.ex
 exact fn_of lk hcd S len λ A outer s H vs Q E hr hsp=>hbody cdv A outer s H vs Q E hr hsp
end
theorem FnOk.calm {P:Program}{w:World}{K:PySem.W.Frag}{mg:Str->Option Value}{base:Heap}{CX:CXT}{k:Nat}{f:Addr}{fd:FuncData}{ps:List Str}{sp:Sp} (F:FnOk P w K mg base CX0 k f fd ps sp):FnOk P w K mg base CX k f fd ps sp :=
 ⟨F.len,λ A outer s H args us vs Q E hr he hb hv hs=>codeAny_mono (F.run A outer s H args us vs Q E hr he hb hv hs) λ r s' h=>by
  cases r with
  | ok fl=>cases fl<;>exact h
  | error e=>exact False.elim h⟩
section
variable {X:Cx}
theorem PS.nox {st:Stmt}{t:TS} (h:PS X.nox st t):PS X st t:=λ pins s σ H D I hw =>
 wpAny_mono (h pins s σ H D (I.wish _) hw) (λ _ _ q=>q.unwish) λ _ _ z=>z.elim
end
end L2
set_option maxHeartbeats 4000000
namespace L2
open PySem PySem.Spec PyProof.Rows
noncomputable abbrev Cx.held (X:Cx) (e:Addr) (oe:Obj):Cx:={X with A:=X.A.mark (some (.ref e)),calm:=false,pn:=(e,oe)::X.pn,xe:=λ _ _=>False}
noncomputable abbrev Cx.tried (X:Cx) (xe:Value->Shared->Prop) (pins:List (Addr×Obj)):Cx:={X with xe:=xe,pn:=X.pn++pins}
section
variable {X:Cx}{pins pins':List (Addr×Obj)}{σ:St}{H:Hp}{s:Shared}{xe:Value->Shared->Prop}{e:Addr}{oe:Obj}
theorem Cx.Ok.tried (ok:X.Ok):(X.tried xe pins).Ok:=⟨ok.mod,ok.kind,ok.glob,ok.blt,ok.above,ok.inj,ok.has,ok.cab,ok.hd,ok.frames,ok.stk,ok.exf,ok.bs,ok.bsz,ok.noex,ok.exfs,ok.funs,ok.frf⟩
theorem Cx.Ok.untried (ok:(X.tried xe pins).Ok):X.Ok:=⟨ok.mod,ok.kind,ok.glob,ok.blt,ok.above,ok.inj,ok.has,ok.cab,ok.hd,ok.frames,ok.stk,ok.exf,ok.bs,ok.bsz,ok.noex,ok.exfs,ok.funs,ok.frf⟩
theorem Inv.tried (I:Inv X pins σ H s):Inv (X.tried xe pins) [] σ H s:=⟨I.ok.tried,I.os,I.bare,I.base,I.loc,I.cell,I.free,I.freeC,λ p hp=>I.pin p (by simpa using hp),I.hok,I.len⟩
theorem Inv.untried (I:Inv (X.tried xe pins) pins' σ H s):Inv X pins σ H s:=⟨I.ok.untried,I.os,I.bare,I.base,I.loc,I.cell,I.free,I.freeC,λ p hp=>I.pin p (List.mem_append_left _ hp),I.hok,I.len⟩
theorem Inv.held (I:Inv X pins σ H s) (he:s.heap.get? e=some oe) (hn:H e=none) (hL:e≠X.env.locals) (hf:e ∉ X.fs) (hc:∀ v,oe.data≠.cell v):Inv (X.held e oe) pins σ H s:=by
 have ok:=I.ok
 refine⟨⟨ok.mod,ok.kind,ok.glob,ok.blt,ok.above,ok.inj,ok.has,ok.cab,(λ z=>by cases z),ok.frames,ok.stk,ok.exf,ok.bs,ok.bsz,ok.noex,ok.exfs,ok.funs,ok.frf⟩,I.os,I.bare,I.base,I.loc,I.cell,I.free,I.freeC,λ p hp=>?_,I.hok,I.len⟩
 rcases List.mem_cons.mp hp with z | z
 ·subst z;exact⟨he,hn,hL,hf,hc⟩
 ·exact I.pin p z
theorem Inv.unheld (I:Inv (X.held e oe) pins σ H s) (hd:X.calm=true->X.A.handled=none):Inv X pins σ H s:=by
 have ok:=I.ok
 exact⟨⟨ok.mod,ok.kind,ok.glob,ok.blt,ok.above,ok.inj,ok.has,ok.cab,hd,ok.frames,ok.stk,ok.exf,ok.bs,ok.bsz,ok.noex,ok.exfs,ok.funs,ok.frf⟩,I.os,I.bare,I.base,I.loc,I.cell,I.free,I.freeC,λ p hp=>I.pin p (List.mem_cons_of_mem _ hp),I.hok,I.len⟩
end
noncomputable def PassesS (CX:CXT) (X:Cx) (E:St->XK):Prop:=∀ (pins:List (Addr×Obj)) (σ:St) (H:Hp) (s:Shared) (e:Value) (s':Shared),Inv X pins σ H s->CX X.stack H s (E σ) e s'->X.xe e s'
noncomputable def tCallS (sp:Sp) (dvs:List V) (E:St->XK) (t:TA):TE:=λ σ H Q=>t σ H λ vs H1=>sp (vs++dvs) H1 Q (E σ)
section
variable {X:Cx}{CX:CXT}{k:Nat}{f:Addr}{fd:FuncData}{ps:List Str}{sp:Sp}{dvs:List V}{ds:List Value}{E:St->XK}{x:Str}{p pos:Pos}{e:Expr}{es:List Expr}{t:TA}
theorem pe_callS (F:FnOk X.prog X.w X.K X.mg X.base CX k f fd ps sp) (hr:Room k X.A) (hg:Gl X x) (hm:X.mg x=some (.ref f)) (hk:PySem.W.keepIn X.K (.ref f)=true) (hb:Binds X.K fd ps ds) (hd:Vals dvs ds) (hx:PassesS CX X E)
  (ha:PA X (e::es) t) (hdb:(x == ("__debug__":Str))=false:=by decide) (he:starEach (e::es) X.env=(false,eval e X.env)::starEach es X.env:=by rfl) (hpl:(backTo pos (starEach es X.env)).any (·.1)=false:=by rfl) :
  PE X (.Call (.Name x p) (e::es) [] pos) (tCallS sp dvs E t):=by
 intro pins s σ H Q I h
 refine wpAny_Call_Name_kw (ld_glob I hg hm ?_ hdb)
 refine PySem.W.callWith_K (h₀:=X.base) I.ok.mod.kin hk (thn (ha pos pins s σ H _ I h) λ us s1 ⟨vs,H1,I1,r,q⟩=>⟨I1.kIn,?_⟩) he hpl
 have r2:Vals (vs++dvs) (us++ds):=r.append hd
 have hl:(us++ds).length=ps.length:=by rw[<-r2.length];exact F.len _ _ _ _ q
 refine wpAny_call (codeAny_mono (F.run X.A X.stack s1 H1 ⟨us,[]⟩ (us++ds) (vs++dvs) Q (E σ) hr I1.env0 (hb s1 us I1.kIn hl) r2 q) λ r s' hq=>?_)
 cases r with
 | error e=>exact hx pins σ H1 s1 e s' I1 hq
 | ok fl =>
  cases fl with
  | ret u=>exact I1.after hq
  | next=>exact False.elim hq
  | brk=>exact False.elim hq
  | cont=>exact False.elim hq
end
structure Catch (K:PySem.W.Frag) (CS:Addr):Prop where
 ty:PySem.W.typeIn K (.ref CS)=some (.type "type")
 isc:PySem.W.isClsIn K CS=true
 base:PySem.W.subIn K (.ref CS) (.type "BaseException")=some true
open PySem.W in
theorem looks_isType {K:Frag}{M:Model}{h:Heap}{C:Addr} (kin:K.In h) (z:isClsIn K C=true):Looks M h (isType (.ref C)) true:=by
 unfold isClsIn clsIn at z
 split at z
 ·rename_i lk
  intro A Q E s k q
  unfold isType loadHead
  exact wpAny_bind (wpAny_loadPart (k C _ (kin C _ lk)) (wpAny_pure q))
 ·cases z
open PySem.W in
theorem exc_matches {prog:Program}{w:World}{A:Around}{E:Value->Shared->Prop}{s:Shared}{K:Frag}{e CS:Addr}{oe:Obj}{Q:Bool->Shared->Prop} (kin:K.In s.heap) (he:s.heap.get? e=some oe) (ca:Catch K CS)
  (hC:subIn K oe.cls (.ref CS)=some true) (hq:Q true s):wpAny (model prog w) A (excMatches (.ref e) (.ref CS)) Q E s:=by
 obtain⟨hh,g,d,tk,os⟩:=s
 have L1:Looks (model prog w) hh (typeOf (.ref CS)) (.type "type"):=looks_typeIn kin ca.ty
 have L2:Looks (model prog w) hh (isType (.ref CS)) true:=looks_isType kin ca.isc
 have L3:Looks (model prog w) hh (isSubtype oe.cls (.ref CS)) true:=looks_subIn kin hC
 have L4:Looks (model prog w) hh (isInstance (.ref CS) (.type "tuple")) false:=L1.andThen (Looks.of_pure tc_notTuple)
 have L5:Looks (model prog w) hh (isExcClass (.ref CS)) true:=L2.andThen (looks_subIn kin ca.base)
 have L6:Looks (model prog w) hh (typeOf (.ref e)) oe.cls:=(Looks.ld he).andThen .now
 unfold excMatches
 refine wpAny_bind (L4.at ?_)
 simp only[Bool.false_eq_true,if_false]
 refine wpAny_bind (wpAny_pure ?_)
 simp only[List.forIn_cons,List.forIn_nil]
 refine wpAny_bind (wpAny_bind (wpAny_bind (L5.at ?_)))
 simp only[Bool.not_true,Bool.false_eq_true,if_false]
 refine wpAny_pure (wpAny_pure (wpAny_bind (L6.at ?_)))
 refine wpAny_bind (wpAny_bind (wpAny_bind (L3.at ?_)))
 simp only[if_true]
 exact wpAny_pure (wpAny_pure (wpAny_pure hq))
theorem goes {X:Cx}{pins:List (Addr×Obj)}{σ:St}{H:Hp}{s:Shared}{M:Model}{A:Around}{E:Value->Shared->Prop}{Q:Unit->Shared->Prop}{i:Nat}{n:Str}{pos:Pos} (I:Inv X pins σ H s) (hN:X.N.Nodup) (hi:X.N[i]? = some n) (hl:X.env.scope.names.lookup n=some .local)
  (k:∀ s',Inv X pins (σ.set i none) H s'->Q () s'):wpAny M A (do bindName X.env n .none;unbindBehindTheSuite X.env n pos) Q E s:=by
 obtain⟨m,hn,hloc⟩:=id I.loc
 have hcls:(X.env.scope.kind == .class || (X.env.scope.kind == .module && X.env.locals != X.env.globals))=false:=by rw[I.ok.kind];rfl
 refine wpAny_nameGoes_keeps hl hn hcls λ h' v hn' hs=>k _ ?_
 have nl:∀ b o,X.s₀.heap.get? b=some o->b≠X.env.locals:=λ b o e=>I.notMine e
 have cne:=I.cne
 refine⟨I.ok,I.os,I.bare,⟨λ b o e z hb hx=>(hs.2 b (nl b o e)).trans (I.base.keep b o e z hb hx),λ b o e z hb hx=>?_,I.base.free,λ b o e hx=>?_,I.base.tups,I.base.frzs,I.base.tbls⟩,⟨_,hn',λ j y v' e1 e2 e3=>?_⟩,λ y c e=>?_,I.free,I.freeC,λ p hp=>?_,λ b u e=>?_,by simpa using I.len⟩
 ·obtain⟨sl,e1⟩:=I.base.slot b o e z hb hx
  exact⟨sl,(hs.2 b (nl b o e)).trans e1⟩
 ·obtain⟨o',e1⟩:=I.base.there b o e hx
  exact⟨o',(hs.2 b (nl b o e)).trans e1⟩
 ·have hj:j≠i:=by
   rintro rfl
   rw[List.getElem?_set_self (by rw[I.len];exact (List.getElem?_eq_some_iff.mp hi).1)] at e2
   cases e2
  rw[List.getElem?_set_ne (Ne.symm hj)] at e2
  obtain⟨u',r',q⟩:=hloc j y v' e1 e2 e3
  refine⟨u',r',?_⟩
  rcases q with ⟨k1,k2⟩ | ⟨k1,c,k2,z⟩
  ·refine .inl ⟨k1,?_⟩
   have:y≠n:=λ e=>hj (nodup_ix hN e1 (e ▸ hi))
   simp [this,k2]
  ·exact .inr ⟨k1,c,k2,z.sameBut hs (cne y c k2)⟩
 ·obtain⟨w',z⟩:=I.cell y c e
  exact⟨w',z.sameBut hs (cne y c e)⟩
 ·obtain⟨e,z,ne,nf,d⟩:=I.pin p hp
  exact⟨(hs.2 p.1 ne).trans e,z,ne,nf,d⟩
 ·refine (I.hok b u e).stay (λ c w' hc q=>(hs.2 c ?_).trans q) (λ _ q=>q) λ _ _ q=>q
  rintro rfl
  have fr:=I.free
  rcases hc with z | z
  ·rw[<-z,fr] at e;cases e
  ·rw[fr] at z;cases z
end L2
set_option maxHeartbeats 4000000
namespace L2
open PySem PySem.Spec PyProof.Rows
noncomputable def Bg (i:Int):Prop:=Builtin.Int.intBits i<=1048576
theorem Bg.le {i j:Int} (h:Bg i) (hj:j.natAbs<=i.natAbs):Bg j:=intBits_le_iff.mpr (Nat.lt_of_le_of_lt hj (intBits_le_iff.mp h))
theorem Bg.zero:Bg 0:=by unfold Bg Builtin.Int.intBits;decide
open PySem.W in
theorem bg_of_lay {ns:List Int} (h:WData.layableAll [WData.list (ns.map WData.int)]=true):∀ i∈ns,Bg i:=λ i hi=>by
 have h1:=layableW_arg h _ (List.mem_singleton.mpr rfl)
 have h2:=layableW_item h1 (.int i) (List.mem_map.mpr ⟨i,hi,rfl⟩)
 have h3:=(layableW_iff.mp h2).2.2
 exact h3
open PySem.W in
theorem attachB {l:OpenLaw}{n:Nat}{q:Program}{loose:List Str}{XP:(Str->Option Value)->Heap->Prop}{YP:World->Heap->Prop}{d:DefRec}
  (hn:l.most=some n) (hdf:d.params.defaults = [])
  (run:∀ (w:World) (s0 s1:Shared) (mg mb:Str->Option Value) (fa:Addr) (o:Obj) (pm cd doc:Value) (a:Addr) (vs:List Value) (ns:List Int),
   Ground q loose [] XP w s0 mg mb s1.heap->YP w s1.heap ->
   s1.heap.get? fa=some o->o.data=.func (Calls.docDef d.name d.params d.body d.scope pm cd doc)->s1.heap.CodeRec cd d.name->mg d.name=some (.ref fa) ->
   s1.heap.get? a=some {cls:=.type "list",data:=.seq vs.toArray}->IntsAre vs ns->ns.length<=n->(∀ i∈ns,Bg i)->s1.gens=#[] ->
   codeAny (model l.prog w) callerA (.call (.ref fa) ⟨[.ref a],[]⟩) (λ r s'=>r=.ok (.ret (.bool true))/\OldK s1.heap s'.heap/\s'.os=s1.os/\AllBare s'.gens) s1) :
  WalkO q loose XP YP l.row.toRowW d [] (λ f vs=>PySem.call f vs):=by
 intro w s0 s1 mg mb G Y fa o pm cd doc dV kV ho hd hcd hD hmg hg args vals as hpre hlay hrd hwl hlo
 obtain rfl:dV=.none:=Dflts.none hD hdf
 obtain rfl:kV=.none:=Dflts.noKw hD
 obtain⟨a,vs,ns,rfl,rfl,hobj,hints,hlen⟩:=Att.script_of hn hpre hwl
 have hbg:=bg_of_lay hlay
 refine enter_call (codeAny_mono (run w s0 s1 mg mb fa o pm cd doc a vs ns G Y ho (fd_plain hd) hcd hmg hobj hints hlen hbg hg) λ r s' hq=>?_)
 obtain⟨e1,h2,h3,h4⟩:=hq
 subst e1
 exact⟨.inl ⟨.bool true,.bool true,[],rfl,λ _=>rfl,.bool true,Att.post_true l _,λ _=>⟨List.Pairwise.nil,λ _ hm=>(nomatch hm)⟩⟩,h2,h3,h4⟩
theorem Inv.big {X:Cx}{pins:List (Addr×Obj)}{σ:St}{H:Hp}{s:Shared} (I:Inv X pins σ H s):sysModules<s.heap.objs.size:=by
 have h:mainGlobals<s.heap.objs.size:=(I.mod.glob.keeps I.bk).lt
 exact Nat.lt_trans (by decide) h
theorem Dens.at {H:Hp}{ts:List Th}{xs:List V}{i:Int} (d:Th) (h:Dens H ts xs) (h0:0<=i) (h1:i<(ts.length:Int)):∃ v,atI xs i=some v/\Den H (ts.getD i.toNat d) v:=by
 have hk:i.toNat<ts.length:=by omega
 have ek:i=((i.toNat:Nat):Int):=by omega
 obtain⟨v,e,q⟩:=h.get (List.getElem?_eq_getElem hk)
 have z:=atI_nat e
 rw[<-ek] at z
 refine⟨v,z,?_⟩
 rw[getD_in hk];exact q
end L2
set_option maxHeartbeats 4000000
namespace L2
open PySem PySem.Spec PyProof.Rows
section
variable {prog:Program}{w:World}{A:Around}{E:Value->Shared->Prop}
end
end L2
set_option maxHeartbeats 4000000
namespace L2
open PySem PySem.Spec PySem.W PyProof.Rows Builtin Builtin.ObjectAttr Builtin.Getset_descriptor
structure XInst (K:Frag) (C:Addr):Prop where
 ga:findIn K (.ref C) "__getattribute__" = some (some (.builtin "BaseException.__getattribute__"))
 gt:findIn K (.ref C) "__getattr__" = some none
 cl:findIn K (.ref C) "__class__" = some (some (.builtin "object.__class__"))
 sg:specialIn K (.builtin "object.__class__") "__get__" = some (some (.builtin "getset_descriptor.__get__"))
 tk:takesIn K (.builtin "object.__class__")=some true
 ob:mroIn K C (.type "object")=some true
 be:mroIn K C (.type "BaseException")=some true
 ok:isClsIn K C=true
section
variable {prog:Program}{w:World}{A:Around}{E:Value->Shared->Prop}{K:Frag}{a C:Addr}{oe:Obj}{h:Heap}{g:Array GenState}{d:Drawn}{t:Nat}{os:OsState}
theorem exc_class_get {R:Result->Shared->Prop}{tp:Value} (kin:K.In h) (x:XInst K C) (he:h.get? a=some oe) (hc:oe.cls=.ref C) (q:R (.ok (.ret (.ref C))) ⟨h,g,d,t,os⟩) :
  codeAny (model prog w) A (.call (.builtin "getset_descriptor.__get__") ⟨[.builtin "object.__class__",.ref a,tp],[]⟩) R ⟨h,g,d,t,os⟩:=by
 have M0:Looks (model prog w) h (typeOf (.ref a)) (.ref C):=by rw[<-hc];exact (Looks.ld he).andThen .now
 have M1:=looks_mroIn (M:=model prog w) kin x.ob
 refine codeAny_call_builtin (KF.slot_gs.plain) KF.entry_gs
  (KF.slot_gs.check _ _ _ _ _ _ _ _ KF.type_class (KF.args_gs _ _ _) ?_)
 unfold Builtin.«getset_descriptor.__get__» descrGet
 rw[dga_obj]
 refine wpAny_bind (wpAny_pure ?_)
 unfold descrGetter descrCheckInstance descrNameAndClass isInstance
 simp only[KF.owner_class]
 repeat lk
 refine⟨Code.quiet_builtin _ (by decide +kernel),codeAny_builtin KF.entry_class ?_⟩
 unfold Builtin.«object.__class__» shownTypeOf
 repeat lk
 exact q
theorem exc_attr {tk:Tok}{Q:PySem.Fin->Shared->Prop} (kin:K.In h) (x:XInst K C) (he:h.get? a=some oe) (hc:oe.cls=.ref C) (q:Q (.done (.ret (.ref C))) ⟨h,g,d,t,os⟩) :
  wpAny (model prog w) A (Builtin.«object.__getattribute__» ⟨[.ref a,.str "__class__" tk],[]⟩) Q E ⟨h,g,d,t,os⟩:=by
 have M0:Looks (model prog w) h (typeOf (.ref a)) (.ref C):=by rw[<-hc];exact (Looks.ld he).andThen .now
 have M3:=looks_findIn (M:=model prog w) kin x.cl
 have f5:=KF.type_class
 have f6:=F.slot_gs_get.lookup
 have f7:=F.slot_gs_set.lookup
 repeat (any_goals (first | assumption | (with_reducible refine wpAny_loadPart_at he ?_;rw[hc]) | (with_reducible refine M3.at ?_) | wp_step))
 refine exc_class_get kin x he hc ?_
 exact wpAny_pure q
seal wpAny in
theorem exc_class {Q:Option Value->Shared->Prop} (kin:K.In h) (x:XInst K C) (he:h.get? a=some oe) (hc:oe.cls=.ref C) (q:Q (some (.ref C)) ⟨h,g,d,t+1,os⟩) :
  wpAny (model prog w) A (getAttr? (.ref a) "__class__") Q E ⟨h,g,d,t,os⟩:=by
 have M0:Looks (model prog w) h (typeOf (.ref a)) (.ref C):=by rw[<-hc];exact (Looks.ld he).andThen .now
 have M1:=looks_findIn (M:=model prog w) kin x.ga
 have M2:=looks_findIn (M:=model prog w) kin x.gt
 have M3:=looks_findIn (M:=model prog w) kin x.cl
 unfold getAttr? getAttrBy? getAttrBy
 refine wpAny_bind (wpAny_mkText (wpAny_bind (wpAny_attempt (wpAny_holding (wpAny_bind (M0.at (wpAny_bind (M1.at ?_))))))))
 have n1:(onTheHeap (Value.ref C) && Value.builtin "BaseException.__getattribute__" == Value.builtin "object.__getattribute__")=false:=by
  rw[show (Value.builtin "BaseException.__getattribute__" == Value.builtin "object.__getattribute__")=false by decide +kernel,Bool.and_false]
 simp only[n1,Bool.false_eq_true,if_false]
 unfold getAttrByItsOwn hookBefore
 refine wpAny_bind (M2.at (wpAny_bind (wpAny_attempt (wpAny_holding ?_))))
 unfold callGetattribute boundAndCalled
 simp only[Bool.false_and,Bool.false_eq_true,if_false]
 rw[F.attr_ValueError.ga.bind (.ref a)]
 refine wpAny_bind (wpAny_pure ?_)
 refine wpAny_call (codeAny_call_builtin F.attr_ValueError.ga.plain F.entry_bexc_ga ?_)
 have be:subIn K (.ref C) (.type "BaseException")=some true:=x.be
 have M4:Looks (model prog w) h (isInstance (.ref a) (.type "BaseException")) true:=M0.andThen (looks_subIn kin be)
 have k1:builtinKind "BaseException.__getattribute__" = some .slot:=by decide +kernel
 have k2:splitId "BaseException.__getattribute__" = some ("BaseException","__getattribute__"):=by decide +kernel
 show wpAny _ _ (checkBuiltinCall "BaseException.__getattribute__" ⟨[.ref a,.str "__class__" t],[]⟩) _ _ _
 have k3:argsOk "BaseException.__getattribute__" ⟨[.ref a,.str "__class__" t],[]⟩:=F.args_bexc_ga (.ref a) (.str "__class__" t)
 refine check_slot (self:=.ref a) (rest:=[.str "__class__" t]) (kw:=[]) (owner:="BaseException") (n:="__getattribute__") k1 k2 M4 k3 ?_
 refine exc_attr kin x he hc ?_
 show wpAny (model prog w) A (handedOut (.ref C)) _ _ _
 exact handed_on rfl (wpAny_pure q)
theorem kitx_exc (x:XInst K C):KitX K (.ref a) (.ref C) (λ h=>∃ oe,h.get? a=some oe/\oe.cls=.ref C) where
 ty:=λ M h _ ⟨oe,he,hc⟩=>by rw[<-hc];exact (Looks.ld he).andThen .now
 it:=λ M h kin _=>looks_isType kin x.ok
 ne:=λ h tp dd its n sl kin htp=>by
  refine Bool.eq_false_iff.mpr λ q=>?_
  have e:C=tp:=Value.ref.inj (beq_iff_eq.mp q)
  subst e
  have z:=x.ok
  unfold isClsIn clsIn at z
  split at z
  ·rename_i lk
   have y:=(kin C _ lk).symm.trans htp
   cases y
  ·cases z
 ca:=λ {prog w A E Q s} kin ⟨oe,he,hc⟩ q=>by
  obtain⟨h,g,d,t,os⟩:=s
  exact exc_class kin x he hc q
end
section
variable {X:Cx}{e:Addr}{oe:Obj}
theorem Inv.heldAt {pins:List (Addr×Obj)}{σ:St}{H:Hp}{s:Shared} (I:Inv (X.held e oe) pins σ H s):s.heap.get? e=some oe:=(I.pin (e,oe) (List.mem_append_left _ List.mem_cons_self)).1
end
end L2
set_option maxHeartbeats 4000000
namespace L2
open PySem PySem.Spec PyProof.Rows
section
variable {X:Cx}{pins:List (Addr×Obj)}{σ:St}{H:Hp}{s:Shared}{h':Heap}
theorem Inv.turnedL {t':Nat}{fp:List Addr} (I:Inv X pins σ H s) (k:∀ b o,b ∉ fp->s.heap.get? b=some o->h'.get? b=some o) (hf:∀ b∈fp,FpOk X pins H b) :
  Inv X pins σ H {s with heap:=h',toks:=t'}:=by
 have nin:∀ b u,H b=some u->b ∉ fp:=λ b u e z=>by rw[(hf b z).1] at e;cases e
 refine I.step (g':=s.gens) (d':=s.drawn) (ch:=fp) (λ b hb=>⟨(hf b hb).2.2.2.1,(hf b hb).2.1,(hf b hb).2.2.2.2.1,(hf b hb).2.2.2.2.2⟩) (λ b o _ _ hc e _=>k b o hc e) (λ b o _ _ hc e _=>⟨o.slots,k b o hc e⟩) (λ _ _ _ _ n=>n)
  (λ b o hc e=>⟨o,k b o hc e⟩) (λ _ _ e=>e) (λ _ _ _ e=>e) (λ b ps e=>⟨#[],by rw[e];simp⟩) (λ m hm=>?_) (λ b u e=>?_) I.bare
 ·obtain⟨o,es,ep,ho,r⟩:=hm
  exact⟨o,es,ep,k _ o (λ z=>(hf _ z).2.1 rfl) ho,r⟩
 ·refine (I.hok b u e).stay (λ c v hc q=>k c v ?_ q) (λ _ q=>q) λ _ _ q=>q
  rcases hc with z | z
  ·rw[z];exact nin b u e
  ·exact nin c _ z
theorem Inv.turnLay {t':Nat}{fp:List Addr}{a:Addr}{o:HO} (I:Inv X pins σ H s) (k:∀ b u,b ∉ fp->s.heap.get? b=some u->h'.get? b=some u) (hf:∀ b∈fp,FpOk X pins H b)
  (ha:s.heap.objs.size<=a) (new:ObjOk X.prog X.w (upd H a o) h' a o):Inv X pins σ (upd H a o) {s with heap:=h',toks:=t'}:=by
 have nin:∀ b u,H b=some u->b ∉ fp:=λ b u e z=>by rw[(hf b z).1] at e;cases e
 have hn:H a=none:=I.hok.fresh ha
 have ne:∀ b u,H b=some u->b≠a:=λ b u e z=>by rw[z,hn] at e;cases e
 refine I.step (g':=s.gens) (d':=s.drawn) (ch:=fp) (λ b hb=>⟨(hf b hb).2.2.2.1,(hf b hb).2.1,(hf b hb).2.2.2.2.1,(hf b hb).2.2.2.2.2⟩) (λ b o _ _ hc e _=>k b o hc e) (λ b o _ _ hc e _=>⟨o.slots,k b o hc e⟩)
  (λ b u _ e n=>by rw[upd_ne (Nat.ne_of_lt (Nat.lt_of_lt_of_le (Heap.lt_size e) ha))];exact n)
  (λ b o hc e=>⟨o,k b o hc e⟩) (λ b xs e=>by rw[upd_ne (ne b _ e)];exact e) (λ b o u e=>by rw[upd_ne (ne b _ e)];exact e) (λ b ps e=>⟨#[],by rw[upd_ne (ne b _ e),e];simp⟩) (λ m hm=>?_) (λ b u e=>?_) I.bare
 ·obtain⟨o,es,ep,ho,r⟩:=hm
  exact⟨o,es,ep,k _ o (λ z=>(hf _ z).2.1 rfl) ho,r⟩
 ·by_cases hb:b=a
  ·subst hb
   rw[upd_same] at e
   cases e
   exact new
  ·rw[upd_ne hb] at e
   refine (I.hok b u e).stay (λ c v hc q=>k c v ?_ q) (λ c q=>by rw[upd_ne (ne c _ q)];exact q) λ c xs q=>by rw[upd_ne (ne c _ q)];exact q
   rcases hc with z | z
   ·rw[z];exact nin b u e
   ·exact nin c _ z
end
noncomputable def Itz (K:PySem.W.Frag) (l1 l2:Addr):It :=
 ⟨λ i H=>∃ xs ys x y,SqL K H l1 xs/\SqL K H l2 ys/\xs[i]? = some x/\ys[i]? = some y,
  λ i H v H'=>∃ T x y,H T=none/\H'=upd H T (.tup [x,y])/\v=.ref T/\(∀ xs,SqL K H l1 xs->xs[i]? = some x)/\∀ ys,SqL K H l2 ys->ys[i]? = some y,
  λ i H=>∃ xs ys,SqL K H l1 xs/\SqL K H l2 ys/\(xs.length<=i∨ys.length<=i)⟩
noncomputable def ZSt (z TI TO i1 i2 l1 l2:Addr) (i:Nat) (h:Heap):Prop :=
 IsZip h z TI TO Value.none/\IsPair h TI (.ref i1) (.ref i2)/\(∃ a b,IsPair h TO a b)/\h.IsListIter i1 l1 i/\h.IsListIter i2 l2 i
theorem isList_at {h:Heap}{l:Addr}{items:Array Value} (x:h.IsList l items):∃ o,h.get? l=some o/\o.cls=.type "list":=by
 obtain⟨o,e,c,_⟩:=x
 exact⟨o,e,c⟩
theorem turn_zip {P:Program}{w:World}{K:PySem.W.Frag}{es:List Expr}{k0:Nat}{p0:Pos}{z TI TO i1 i2 l1 l2:Addr} (ap:ZipApart z TI TO i1 i2 l1 l2) :
  Turn P w K (.Tuple es k0 p0) (Itz K l1 l2) [z,TI,TO,i1,i2] z (ZSt z TI TO i1 i2 l1 l2) where
 mem:=by simp
 obj:=λ i h ⟨a,b,⟨c1,c2,c⟩,d,e⟩ x hx=>by
  simp only[List.mem_cons,List.not_mem_nil,or_false] at hx
  rcases hx with rfl | rfl | rfl | rfl | rfl
  ·exact⟨_,a,λ v q=>by cases q⟩
  ·exact⟨_,b,λ v q=>by cases q⟩
  ·exact⟨_,c,λ v q=>by cases q⟩
  ·obtain⟨o,e1,_,e2⟩:=d
   exact⟨o,e1,λ v q=>by rw[e2] at q;cases q⟩
  ·obtain⟨o,e1,_,e2⟩:=e
   exact⟨o,e1,λ v q=>by rw[e2] at q;cases q⟩
 keep:=λ i h h' ⟨a,b,⟨c1,c2,c⟩,d,e⟩ kk =>
  ⟨kk _ (by simp) _ a,kk _ (by simp) _ b,⟨c1,c2,kk _ (by simp) _ c⟩,d.at λ o q=>kk _ (by simp) o q,e.at λ o q=>kk _ (by simp) o q⟩
 item:=by
  intro X hP hw hK hc i pins s σ H E I hf st hg
  subst hP hw hK
  obtain⟨a,b,⟨c1,c2,c⟩,d,e⟩:=st
  obtain⟨xs,ys,x,y,q1,q2,x1,y1⟩:=hg
  obtain⟨its1,rv1,pl1,hz1⟩:=I.list q1
  obtain⟨its2,rv2,pl2,hz2⟩:=I.list q2
  obtain⟨u1,hu1,ru1⟩:=rv1.get x1
  obtain⟨u2,hu2,ru2⟩:=rv2.get y1
  refine wpAny_pyNext_zip_item ap a b c d e pl1.isList pl2.isList (x:=u1) (y:=u2) (by simpa using hu1) (by simpa using hu2) λ h' za zb zc zd ze zs zk=>?_
  refine⟨_,rfl,wpAny_letOwnedTupleGo_zip (s:={s with heap:=h'}) za λ h2 za2 sb=>?_⟩
  have kk:∀ b o,b ∉ [z,TI,TO,i1,i2]->s.heap.get? b=some o->h2.get? b=some o:=λ b o hb q=>by
   simp only[List.mem_cons,List.not_mem_nil,or_false,not_or] at hb
   exact (sb.2 b hb.1).trans (zk b o hb.1 hb.2.2.1 hb.2.2.2.1 hb.2.2.2.2 q)
  have szn:s.heap.objs.size≠z:=λ q=>by
   obtain⟨f0,_⟩:=hf z (by simp)
   exact absurd (Heap.lt_size a) (by rw[<-q];exact Nat.lt_irrefl _)
  have hT:h2.get? s.heap.objs.size=some {cls:=.type "tuple",data:=.seq #[u1,u2]}:=(sb.2 _ szn).trans ze
  have fr:H s.heap.objs.size=none:=I.hok.fresh (Nat.le_refl _)
  have I2:Inv X pins σ (upd H s.heap.objs.size (.tup [x,y])) {s with heap:=h2}:=I.turnLay (t':=s.toks) (fp:=[z,TI,TO,i1,i2]) kk hf (Nat.le_refl _)
   ⟨by show 2<=sizeLine;decide,[u1,u2],.cons ru1 (.cons ru2 .nil),⟨_,hT,rfl,_,rfl⟩⟩
  have kTI:h2.get? TI=some _:=(sb.2 TI ap.TIz).trans (zk TI _ ap.TIz ap.TITO ap.TIi1 ap.TIi2 b)
  refine⟨.ref s.heap.objs.size,_,I2,rfl,⟨_,x,y,fr,rfl,rfl,λ zs hz=>by rw[I.list_inj hz q1];exact x1,λ zs hz=>by rw[I.list_inj hz q2];exact y1⟩,
   ⟨za2,kTI,⟨_,_,(sb.2 TO ap.TOz).trans zb⟩,zc.at λ o q=>(sb.2 _ ap.i1z).trans q,zd.at λ o q=>(sb.2 _ ap.i2z).trans q⟩,λ b hb=>?_⟩
  have h0:=(hf b hb).1
  have hlt:b≠s.heap.objs.size:=λ q=>by
   subst q
   simp only[List.mem_cons,List.not_mem_nil,or_false] at hb
   rcases hb with q | q | q | q | q
   ·exact szn q
   ·exact absurd (Heap.lt_size b) (by rw[<-q];exact Nat.lt_irrefl _)
   ·exact absurd (Heap.lt_size c) (by rw[<-q];exact Nat.lt_irrefl _)
   ·obtain⟨o,e1,_⟩:=d
    exact absurd (Heap.lt_size e1) (by rw[<-q];exact Nat.lt_irrefl _)
   ·obtain⟨o,e1,_⟩:=e
    exact absurd (Heap.lt_size e1) (by rw[<-q];exact Nat.lt_irrefl _)
  rw[upd_ne hlt]
  exact h0
 done:=by
  intro X hP hw hK hc i pins s σ H E I hf st hg
  subst hP hw hK
  obtain⟨a,b,⟨c1,c2,c⟩,d,e⟩:=st
  obtain⟨xs,ys,q1,q2,hl⟩:=hg
  obtain⟨its1,rv1,pl1,hz1⟩:=I.list q1
  obtain⟨its2,rv2,pl2,hz2⟩:=I.list q2
  have g1:=rv1.length
  have g2:=rv2.length
  refine wpAny_pyNext_zip_end (I.ok.hd hc) ap a b c d e pl1.isList pl2.isList ?_ λ h' zk=>⟨rfl,I.turnedL (t':=s.toks) (fp:=[z,TI,TO,i1,i2]) (λ b o hb q=>?_) hf⟩
  ·rcases hl with q | q
   ·left;simp;omega
   ·right;simp;omega
  ·simp only[List.mem_cons,List.not_mem_nil,or_false,not_or] at hb
   exact zk b o hb.1 hb.2.2.1 hb.2.2.2.1 hb.2.2.2.2 q
 self:=λ _ _ _ _ _ st h=>wpAny_pyIter_zip st.1 h
theorem zapart {n l1 l2:Nat} (h1:l1<n) (h2:l2<n):ZipApart (n+4) (n+2) (n+3) n (n+1) l1 l2:=by
 constructor<;>(show (_:Nat)≠(_:Nat);omega)
noncomputable def iZip (K:PySem.W.Frag) (ta:TA):TI:=λ σ H R=>ta σ H λ vs H1=>∃ a b,vs = [.ref a,.ref b]/\(∃ xs,SqL K H1 a xs)/\(∃ ys,SqL K H1 b ys)/\R (Itz K a b) H1
theorem pi_zip {X:Cx}{es:List Expr}{k0:Nat}{p0:Pos}{a b:Expr}{ta:TA}{p pos:Pos} (hg:Gl X "zip") (hm:X.mg "zip" = none) (ha:PA X [a,b] ta) (hs:starEach [a,b] X.env = [(false,eval a X.env),(false,eval b X.env)]:=by rfl) (hs2:starEach [b] X.env = [(false,eval b X.env)]:=by rfl) :
  PI X (.Tuple es k0 p0) (.Call (.Name "zip" p) [a,b] [] pos) (iZip X.K ta):=by
 intro pins s σ H R I h
 refine Call_ (ld_blt I hg hm boot_zip (PyProof.Rows.callWith_type1 (thn (ha pos pins s σ H _ I h) λ us s1 ⟨vs,H1,I1,r1,q1⟩=>?_) (by rw[hs,hs2]) (by rw[hs2];rfl)))
 obtain⟨l1,l2,e,⟨xs,q1⟩,⟨ys,q2⟩,q⟩:=q1
 subst e
 cases r1 with
 | cons r rr =>
  cases rr with
  | cons r' rr =>
   cases rr
   cases r
   cases r'
   obtain⟨its1,rv1,pl1,hz1⟩:=I1.list q1
   obtain⟨its2,rv2,pl2,hz2⟩:=I1.list q2
   have lt1:l1<s1.heap.objs.size:=by obtain⟨o,e,_⟩:=isList_at pl1.isList;exact Heap.lt_size e
   have lt2:l2<s1.heap.objs.size:=by obtain⟨o,e,_⟩:=isList_at pl2.isList;exact Heap.lt_size e
   refine call_zip_2 pl1.isList pl2.isList λ h' za zb zc zd ze zs zk=>?_
   refine wpAny_pyIter_zip (s:={s1 with heap:=h'}) za ?_
   have I2:Inv X pins σ H1 {s1 with heap:=h'}:=I1.kept (t':=s1.toks) λ b o e=>zk b o e
   refine⟨_,[_,_,_,_,_],_,_,H1,rfl,I2,turn_zip (z:=s1.heap.objs.size+4) (TI:=s1.heap.objs.size+2) (TO:=s1.heap.objs.size+3) (i1:=s1.heap.objs.size) (i2:=s1.heap.objs.size+1) (l1:=l1) (l2:=l2) ?_,⟨za,zb,⟨_,_,zc⟩,zd,ze⟩,λ b hb=>?_,q⟩
   ·exact zapart lt1 lt2
   ·simp only[List.mem_cons,List.not_mem_nil,or_false] at hb
    have ge:s1.heap.objs.size<=b:=by rcases hb with z | z | z | z | z<;>(subst z;first | exact Nat.le_add_right _ _ | exact Nat.le_refl _)
    exact I1.fpOk ge (I1.hok.fresh ge)
end L2
set_option maxHeartbeats 4000000
namespace L2
open PySem PySem.Spec PyProof.Rows
noncomputable abbrev testsOf (ifs:List Expr) (env:Env):Sem Bool:=forIn ifs true λ c ok=>if ok=true then do
   let ok <-PySem.isTrue c env (eval c env)
   pure (ForInStep.yield ok)
  else pure (ForInStep.yield ok)
theorem compTurn_ifs (elt target iter:Expr) (ifs:List Expr) (scope:Scope) (pos:Pos) (it acc:Value) (env:Env) :
 compTurn (elt.ListComp [⟨target,iter,ifs,0⟩] scope pos) 0 it acc env=(do
  standAt iter.pos
  let r <-pyNext it
  match r with
   | none=>pure (Fin.done Flow.next)
   | some v=>do
    letOwnedTupleGo target it v
    assign target env v
    let ok <-testsOf ifs env
    if ok=true then do
     let x <-eval elt env
     let _ <-call (Value.builtin "list.append") [acc,x]
     again (Code.compLoop (elt.ListComp [⟨target,iter,ifs,0⟩] scope pos) 0 it acc env)
    else again (Code.compLoop (elt.ListComp [⟨target,iter,ifs,0⟩] scope pos) 0 it acc env)):=by
 unfold compTurn
 simp
 rfl
noncomputable def PIf (X:Cx) (ifs:List Expr) (t:TT):Prop :=
 ∀ (pins:List (Addr×Obj)) (s:Shared) (σ:St) (H:Hp) (Q:Bool->Hp->Prop),Inv X pins σ H s->t σ H Q->wpAny (model X.prog X.w) X.A (testsOf ifs X.env) (TP X pins σ Q) X.xe s
noncomputable def tYes:TT:=λ _ H Q=>Q true H
theorem pif_nil {X:Cx}:PIf X [] tYes:=λ pins s σ H Q I h=>by
 show wpAny _ _ (pure true) _ _ s
 exact wpAny_pure ⟨H,I,h⟩
theorem pif_one {X:Cx}{c:Expr}{t:TT} (hc:PT X c t):PIf X [c] t:=λ pins s σ H Q I h=>by
 have e:testsOf [c] X.env=PySem.isTrue c X.env (eval c X.env):=by simp [testsOf]
 rw[e]
 exact hc pins s σ H Q I h
theorem compLoop_ifs {prog:Program}{w:World}{A:Around}{R:Result->Shared->Prop}{s:Shared}{elt tg iter:Expr}{ifs:List Expr}{scope:Scope}{pos:Pos}{it acc:Value}{env:Env} (Iv:Nat->Shared->Prop)
  (turn:∀ k s,Iv k s->wpAny (model prog w) A (pyNext it) (λ r s1=>match r with
   | none=>R (.ok .next) s1
   | some v=>wpAny (model prog w) A (letOwnedTupleGo tg it v) (λ _ s2=>wpAny (model prog w) A (assign tg env v) (λ _ s3=>wpAny (model prog w) A (testsOf ifs env) (λ b s4=>if b=true then
     wpAny (model prog w) A (eval elt env) (λ y s5=>wpAny (model prog w) A (call (.builtin "list.append") [acc,y]) (λ _ s6=>∃ m,m<k/\Iv m s6) (λ _ _=>False) s5) (λ _ _=>False) s4
     else ∃ m,m<k/\Iv m s4) (λ _ _=>False) s3) (λ _ _=>False) s2) (λ _ _=>False) s1) (λ _ _=>False) s)
  (k:Nat) (h:Iv k s):codeAny (model prog w) A (.compLoop (.ListComp elt [⟨tg,iter,ifs,0⟩] scope pos) 0 it acc env) R s:=by
 refine codeAny_loop rfl Iv (λ k s hI=>?_) k h
 show wpAny _ _ ((compTurn (.ListComp elt [⟨tg,iter,ifs,0⟩] scope pos) 0 it acc env).onRaise (λ e=>do noteFrame e env;theTreesLotGoes e)) _ _ s
 refine wpAny_noted ?_
 rw[compTurn_ifs]
 refine wpAny_bind (wpAny_standAt (wpAny_bind (wpAny_mono (turn k s hI) (λ r s1 h1=>?_) λ _ _ f=>f.elim)))
 cases r with
 | none=>exact wpAny_pure h1
 | some v =>
  refine wpAny_bind (wpAny_mono h1 (λ _ s2 h2=>wpAny_bind (wpAny_mono h2 (λ _ s3 h3=>wpAny_bind (wpAny_mono h3 (λ b s4 h4=>?_) λ _ _ f=>f.elim)) λ _ _ f=>f.elim)) λ _ _ f=>f.elim)
  cases b with
  | true =>
   rw[if_pos rfl] at h4 ⊢
   exact wpAny_bind (wpAny_mono h4 (λ y s5 h5=>wpAny_bind (wpAny_mono h5 (λ _ s6 h6=>wpAny_pure ⟨rfl,h6⟩) λ _ _ f=>f.elim)) λ _ _ f=>f.elim)
  | false =>
   rw[if_neg Bool.false_ne_true] at h4 ⊢
   exact wpAny_pure ⟨rfl,h4⟩
structure CompOkL (X:Cx) (xs:List Str) (ts:List (Str×Nat)) (scope:Scope) (cl:List (Str×Addr)):Prop where
 clos:closureFor scope X.env=pure cl
 sub:∀ y c,cl.lookup y=some c->X.env.cells.lookup y=some c
 nocell:(scope.names.all λ p=>p.2 != .cell)=true
 kind:scope.kind=.function
 locs:(scope.names.all λ p=>p.2 != .local || scope.names.lookup p.1 == some .local)=true
 nd:(xs++ts.map (·.1)).Nodup
 around:(ts.all λ p=>decide (X.N[p.2]? = some p.1) && (X.env.kindOf p.1 == some .cell || X.env.kindOf p.1 == some .free) && (cl.lookup p.1).isSome &&
  ((relabel scope X.env).names.lookup p.1 == some .cell || (relabel scope X.env).names.lookup p.1 == some .free))=true
 has:((relabel scope X.env).names.all λ p=>!(p.2 == .cell || p.2 == .free) || (cl.lookup p.1).isSome)=true
noncomputable abbrev nmsL (xs:List Str) (ts:List (Str×Nat)):List Str:=xs++ts.map (·.1)
noncomputable def CompG (J:It) (g:TG) (tt:TT) (te:TE) (k:Nat) (st:St) (D:Addr) (H1:Hp) (Q:VK):Prop :=
 ∃ W:Nat->Nat->List V->Hp->Prop,(∃ m,W 0 m [] (upd H1 D (.lst [])))/\∀ i m ys H2,W i m ys H2 ->
  (J.stop i H2/\Q (.ref D) H2)∨(J.go i H2/\∀ x H3 σ0,J.yld i H2 x H3->σ0.length=k->g x (σ0++st) H3 λ σ2 H4=>(∃ σ1,σ1.length=k/\σ2 = σ1++st)/\tt σ2 H4 λ b H5 =>
   if b=true then te σ2 H5 λ y H6=>H6 D=some (.lst ys)/\ys.length<sizeLine/\∃ m',m'<m/\W (i+1) m' (ys++[y]) (upd H6 D (.lst (ys++[y])))
   else ∃ m',m'<m/\W (i+1) m' ys H5)
noncomputable def tCompG (wi:TI) (g:TG) (tt:TT) (k:Nat) (fr:List Nat) (te:TE):TE:=λ σ H Q=>wi σ H λ J H1=>∀ D,H1 D=none->CompG J g tt te k (taken σ fr) D H1 Q
section
variable {X:Cx}{elt iter tg:Expr}{ifs:List Expr}{xs:List Str}{pos:Pos}{scope:Scope}{cl:List (Str×Addr)}{ts:List (Str×Nat)}{wi:TI}{te:TE}{g:TG}{tt:TT}
theorem CompOkL.nocell' (O:CompOkL X xs ts scope cl):∀ y∈scope.names,y.2≠.cell:=λ y hy e=>by
 have:=List.all_eq_true.mp O.nocell y hy
 rw[e] at this
 cases this
theorem CompOkL.locs' (O:CompOkL X xs ts scope cl):∀ y∈scope.names,y.2=.local->scope.names.lookup y.1=some .local:=λ y hy e=>by
 have h:=List.all_eq_true.mp O.locs y hy
 rw[e] at h
 rcases Bool.or_eq_true_iff.mp h with z | z
 ·cases z
 ·exact beq_iff_eq.mp z
theorem CompOkL.from' (O:CompOkL X xs ts scope cl):∀ (i:Nat) (y:Str),(ts.map (·.1))[i]? = some y->∃ j,(sltOf ts)[i]? = some j/\X.N[j]? = some y/\(X.env.kindOf y=some .cell∨X.env.kindOf y=some .free)/\(cl.lookup y).isSome=true /\
  ((relabel scope X.env).names.lookup y=some .cell∨(relabel scope X.env).names.lookup y=some .free):=λ i y e1=>by
 rw[List.getElem?_map] at e1
 cases q:ts[i]? with
 | none=>rw[q] at e1;cases e1
 | some p =>
  rw[q] at e1
  have e2:p.1=y:=Option.some.inj e1
  subst e2
  have h:=List.all_eq_true.mp O.around p (List.mem_of_getElem? q)
  simp only[Bool.and_eq_true,Bool.or_eq_true,beq_iff_eq,decide_eq_true_eq] at h
  obtain⟨⟨⟨h1,h2⟩,h3⟩,h4⟩:=h
  refine⟨p.2,?_,h1,h2,h3,h4⟩
  show (ts.map (·.2))[i]? = some p.2
  rw[List.getElem?_map,q]<;>rfl
theorem CompOkL.has' (O:CompOkL X xs ts scope cl):∀ y,((relabel scope X.env).names.lookup y=some .cell∨(relabel scope X.env).names.lookup y=some .free)->(cl.lookup y).isSome=true:=λ y h=>by
 have go:∀ k:NameKind,(k=.cell∨k=.free)->(relabel scope X.env).names.lookup y=some k->(cl.lookup y).isSome=true:=λ k hk e=>by
  have z:=List.all_eq_true.mp O.has (y,k) (PySem.mem_of_lookup e)
  rcases Bool.or_eq_true_iff.mp z with z | z
  ·rcases hk with e | e<;>(rw[e] at z;cases z)
  ·exact z
 rcases h with h | h
 ·exact go _ (.inl rfl) h
 ·exact go _ (.inr rfl) h
theorem compL_ok {pins:List (Addr×Obj)}{σ:St}{H3:Hp}{s3:Shared}{fp:List Addr} (O:CompOkL X xs ts scope cl) (I3:Inv X pins σ H3 s3) (hfp:∀ b∈fp,FpOk X pins H3 b/\b<s3.heap.objs.size) :
  (cxComp X (nmsL xs ts) scope cl s3.heap.objs.size s3 H3 fp).Ok where
 mod:=I3.ok.mod
 kind:=O.kind
 glob:=I3.ok.glob
 blt:=I3.ok.blt
 above:=Nat.le_refl _
 inj:=λ y z c h1 h2=>I3.ok.inj y z c (O.sub y c h1) (O.sub z c h2)
 has:=λ y h=>Option.isSome_iff_exists.mp (O.has' y h)
 cab:=λ y c h=>by cases h
 hd:=I3.ok.hd
 frames:=I3.ok.frames
 stk:=.inl rfl
 exf:=λ b hb=>⟨Nat.ne_of_lt (hfp b hb).2,λ y c e=>(hfp b hb).1.2.2.2.2.1 y c (O.sub y c e)⟩
 bs:=λ b o e=>I3.bs b o e
 bsz:=Nat.le_trans I3.ok.bsz I3.sz
 noex:=λ b o e hb=>by
  rcases (hfp b hb).1.2.2.2.1 with z | z
  ·exact I3.ok.noex b o e z
  ·exact absurd (Nat.lt_of_lt_of_le (Heap.lt_size (I3.ok.bs b o e).1) z) (Nat.lt_irrefl _)
 exfs:=λ b hb hz=>by
  rcases List.mem_cons.mp (I3.stkSub b hz) with e | e
  ·exact (hfp b hb).1.2.1 e
  ·exact (hfp b hb).1.2.2.1 e
 funs:=I3.stack
 frf:=I3.stkFree
theorem compL_start {pins:List (Addr×Obj)}{σ:St}{H3:Hp}{s3:Shared}{fp:List Addr}{h1:Heap}{tk:Nat} (O:CompOkL X xs ts scope cl) (I3:Inv X pins σ H3 s3) (hfp:∀ b∈fp,FpOk X pins H3 b/\b<s3.heap.objs.size)
  (hns:h1.Ns s3.heap.objs.size λ _=>none) (old:∀ b o,s3.heap.get? b=some o->h1.get? b=some o) :
  Inv (cxComp X (nmsL xs ts) scope cl s3.heap.objs.size s3 H3 fp) [] (List.replicate xs.length none++taken σ (sltOf ts)) H3 {s3 with heap:=h1,toks:=tk}:=by
 refine⟨compL_ok O I3 hfp,rfl,I3.bare,Un.kept old,⟨_,hns,λ i y v e1 e2 e3=>?_⟩,λ y c e=>?_,I3.hok.fresh (Nat.le_refl _),λ y c e=>I3.freeC y c (O.sub y c e),λ p hp=>absurd (show p∈([]:List (Addr×Obj)) from hp) (by simp),I3.hok.kept old,?_⟩
 ·by_cases hi:i<xs.length
  ·rw[List.getElem?_append_left (by simpa using hi),List.getElem?_replicate,if_pos hi] at e2
   cases e2
  ·have hi':xs.length<=i:=Nat.le_of_not_lt hi
   have e1':(ts.map (·.1))[i-xs.length]? = some y:=by
    have:(xs++ts.map (·.1))[i]? = some y:=e1
    rw[List.getElem?_append_right hi'] at this;exact this
   rw[List.getElem?_append_right (by simpa using hi')] at e2
   rw[List.length_replicate] at e2
   obtain⟨j,hj,hN,hk,hcl,hk2⟩:=O.from' _ y e1'
   have e2':σ[j]? = some (some v):=by
    have q:=e2
    unfold taken at q
    rw[List.getElem?_map,hj] at q
    have q':(σ[j]?).getD none=some v:=Option.some.inj q
    cases z:σ[j]? with
    | none=>rw[z] at q';cases q'
    | some w=>rw[z] at q';rw[show w=some v from q']
   obtain⟨m,hn,hl⟩:=I3.loc
   have vis:Vis X.env.scope y:=hk.elim (λ z=>.inr (.inl z)) λ z=>.inr (.inr z)
   obtain⟨u,r,l⟩:=hl j y v hN e2' vis
   obtain⟨c,hc⟩:=Option.isSome_iff_exists.mp hcl
   refine⟨u,r,.inr ⟨hk2,c,hc,?_⟩⟩
   rcases l with ⟨k,_⟩ | ⟨_,c',hc',z⟩
   ·rcases hk with hk | hk
    ·rw[k] at hk;cases hk
    ·rw[k] at hk;cases hk
   ·rw[O.sub y c hc] at hc'
    cases hc'
    obtain⟨o,ho,hd⟩:=z
    exact⟨o,old c o ho,hd⟩
 ·obtain⟨v,o,ho,hd⟩:=I3.cell y c (O.sub y c e)
  exact⟨v,o,old c o ho,hd⟩
 ·show (List.replicate xs.length none++taken σ (sltOf ts)).length=(nmsL xs ts).length
  simp [taken]
theorem compG_run {use:Option (Value->Sem Unit)}{QV:Value->Shared->Prop}{cpos:Pos}{pins:List (Addr×Obj)}{s:Shared}{σ:St}{H:Hp}{Q:VK} (hc:X.calm=true) (O:CompOkL X xs ts scope cl) (hi:PI X tg iter wi) (hg:∀ C s3 H3 fp,PG (cxComp X (nmsL xs ts) scope cl C s3 H3 fp) tg g)
  (ht:∀ C s3 H3 fp,PIf (cxComp X (nmsL xs ts) scope cl C s3 H3 fp) ifs tt) (he:∀ C s3 H3 fp,PE (cxComp X (nmsL xs ts) scope cl C s3 H3 fp) elt te)
  (hs:∀ x,foldedSetIterable iter X.env x=pure x) (I:Inv X pins σ H s) (h:tCompG wi g tt xs.length (sltOf ts) te σ H Q)
  (fin:∀ (D C:Addr) (s6:Shared) (H5:Hp),Inv X pins σ H5 s6->FpOk X pins H5 C->(∃ m,s6.heap.Ns C m)->Q (.ref D) H5->compPost (model X.prog X.w) X.A X.xe use QV (.ref D) C (.ok .next) s6) :
  wpAny (model X.prog X.w) X.A (comprehension (.ListComp elt [⟨tg,iter,ifs,0⟩] scope pos) scope X.env cpos (newList []) false (eval iter X.env) use) QV X.xe s:=by
 refine wpAny_comprehension_free (use:=use) rfl hs O.clos O.kind O.locs' (thn (hi pins s σ H _ I h) λ v s1 h1=>thn h1 λ itv s2 h2=>?_)
 obtain⟨it,fp,tn,J,H2,rfl,I2,T,st2,f2,q⟩:=h2
 have hD:H2 s2.heap.objs.size=none:=I2.hok.fresh (Nat.le_refl _)
 obtain⟨W,⟨m0,w0⟩,turn⟩:=q s2.heap.objs.size hD
 refine wpAny_newObj_type ?_
 have I3:Inv X pins σ (upd H2 s2.heap.objs.size (.lst [])) {s2 with heap:=s2.heap.push {cls:=.type "list",dict:=none,data:=.seq ([]:List Value).toArray}} :=
  I2.laid (a:=s2.heap.objs.size) (o:=.lst []) (t':=s2.toks) (λ b u e=>Heap.get?_push_of_some _ e) (Nat.le_refl _) ⟨Nat.zero_le _,[],0,.nil,Heap.get?_push_size _ rfl⟩
 generalize hs3:({s2 with heap:=s2.heap.push {cls:=.type "list",dict:=none,data:=.seq ([]:List Value).toArray}}:Shared)=s3 at I3
 have sz3:s3.heap.objs.size=s2.heap.objs.size+1:=by rw[<-hs3,Heap.size_push]
 have old3:∀ b u,s2.heap.get? b=some u->s3.heap.get? b=some u:=λ b u e=>by rw[<-hs3];exact Heap.get?_push_of_some _ e
 generalize hH3:upd H2 s2.heap.objs.size (.lst [])=H3 at I3 w0
 have fp2:∀ b∈fp,b<s2.heap.objs.size:=λ b hb=>by
  obtain⟨o,e,_⟩:=T.obj _ _ st2 b hb
  exact Heap.lt_size e
 have hfp:∀ b∈fp,FpOk X pins H3 b/\b<s3.heap.objs.size:=λ b hb=>by
  refine⟨⟨?_,(f2 b hb).2⟩,by rw[sz3];exact Nat.lt_succ_of_lt (fp2 b hb)⟩
  rw[<-hH3,upd_ne (Nat.ne_of_lt (fp2 b hb))]
  exact (f2 b hb).1
 refine wpAny_newFunctionEnv O.nocell' (by intro y hy;simp at hy) (λ h₁ hns₁ hsb₁=>?_) O.kind
 have old:∀ b o,s3.heap.get? b=some o->h₁.get? b=some o:=λ b o e=>hsb₁.extBut b o (Nat.ne_of_lt (Heap.lt_size e)) (Heap.get?_push_of_some _ e)
 have start:Inv (cxComp X (nmsL xs ts) scope cl s3.heap.objs.size s3 H3 fp) [] (List.replicate xs.length none++taken σ (sltOf ts)) H3 {s3 with heap:=h₁,toks:=s3.toks+0}:=compL_start O I3 hfp hns₁ old
 have st4:tn 0 h₁:=T.keep _ _ _ st2 λ b hb o e=>old b o (old3 b o e)
 have okX:∀ {H':Hp},(∀ b∈fp,H' b=none)->∀ b∈fp,FpOk (cxComp X (nmsL xs ts) scope cl s3.heap.objs.size s3 H3 fp) [] H' b:=λ hn b hb=>by
  refine⟨hn b hb,Nat.ne_of_lt (hfp b hb).2,λ z=>?_,.inl hb,λ y c e=>(f2 b hb).2.2.2.2.1 y c (O.sub y c e),λ p hp=>absurd (show p∈([]:List (Addr×Obj)) from hp) (by simp)⟩
  rcases List.mem_cons.mp (I3.stkSub b z) with e | e
  ·exact (f2 b hb).2.1 e
  ·exact (f2 b hb).2.2.1 e
 have loop:∀ s₄:Shared,s₄={s3 with heap:=h₁,toks:=s3.toks+0} ->
   codeAny (model X.prog X.w) X.A (.compLoop (.ListComp elt [⟨tg,iter,ifs,0⟩] scope pos) 0 (.ref it) (.ref s2.heap.objs.size) (compEnvC scope cl s3.heap.objs.size X.env))
    (compPost (model X.prog X.w) X.A X.xe use QV (.ref s2.heap.objs.size) s3.heap.objs.size) s₄:=by
  rintro s₄ rfl
  refine compLoop_ifs (λ n s'=>∃ i ys σ0 H',σ0.length=xs.length/\Inv (cxComp X (nmsL xs ts) scope cl s3.heap.objs.size s3 H3 fp) [] (σ0++taken σ (sltOf ts)) H' s'/\tn i s'.heap/\(∀ b∈fp,H' b=none)/\W i n ys H') ?_ m0
   ⟨0,[],_,H3,by simp,start,st4,λ b hb=>(hfp b hb).1.1,w0⟩
  rintro n s5 ⟨i,ys,σ0,H5,l0,I5,st5,fr5,w5⟩
  rcases turn i n ys H5 w5 with ⟨stop,qn⟩ | ⟨go,step⟩
  ·refine thn (T.done (cxComp X (nmsL xs ts) scope cl s3.heap.objs.size s3 H3 fp) rfl rfl rfl hc i [] s5 (σ0++taken σ (sltOf ts)) H5 _ I5 (okX fr5) st5 stop) λ r s6 ⟨hr,I6⟩=>?_
   subst hr
   obtain⟨m,hn,_⟩:=id I6.loc
   have u6:Un (frs X.stack) fp H3 H5 s3.heap s6.heap:=I6.base
   have fC:H5 s3.heap.objs.size=none:=I6.free
   exact fin s2.heap.objs.size s3.heap.objs.size s6 H5 (I3.call' (s':=s6) (ch:=fp) I6.os u6 I6.hok I6.bare (λ b hb=>⟨(f2 b hb).2.2.2.1,(f2 b hb).2.1,(f2 b hb).2.2.2.2.1,(f2 b hb).2.2.2.2.2⟩))
    (I3.fpOk (Nat.le_refl _) fC) ⟨m,hn⟩ qn
  ·refine thn (T.item (cxComp X (nmsL xs ts) scope cl s3.heap.objs.size s3 H3 fp) rfl rfl rfl hc i [] s5 (σ0++taken σ (sltOf ts)) H5 _ I5 (okX fr5) st5 go) λ r s6 ⟨u,hr,h6⟩=>?_
   subst hr
   refine thn h6 λ _ s7 ⟨z,H7,I7,rz,yz,st7,fr7⟩=>?_
   have I7':=I7.pinned (okX fr7) (T.obj _ _ st7)
   refine thn (hg s3.heap.objs.size s3 H3 fp _ s7 _ H7 z u _ I7' rz (step z H7 σ0 yz l0)) λ _ s8 ⟨σ8,H8,I8,⟨σ1,l1,e8⟩,q8⟩=>?_
   subst e8
   refine thn (ht s3.heap.objs.size s3 H3 fp _ s8 _ H8 _ I8 q8) λ b s9 ⟨H9,I9,q9⟩=>?_
   cases b with
   | true =>
    rw[if_pos rfl] at q9 ⊢
    refine thn (he s3.heap.objs.size s3 H3 fp _ s9 _ H9 _ I9 q9) λ y s10 ⟨vy,H10,I10,ry,hD9,hl9,m',hm',w9⟩=>?_
    refine thn (mt_append (X:=cxComp X (nmsL xs ts) scope cl s3.heap.objs.size s3 H3 fp) _ s10 _ H10 (.ref s2.heap.objs.size) [vy] (.ref s2.heap.objs.size) [y] (λ _ H11=>H11=upd H10 s2.heap.objs.size (.lst (ys++[vy]))) I10 rfl (.cons ry .nil) ⟨_,ys,vy,rfl,rfl,hD9,hl9,rfl⟩) λ _ s11 ⟨_,H11,I11,_,e11⟩=>?_
    subst e11
    refine⟨m',hm',i+1,ys++[vy],σ1,_,l1,I11.unpinned,T.keep _ _ _ st7 λ b hb o e=>(I11.pin (b,o) (List.mem_append_right _ (List.mem_append_right _ (mem_pinsAt hb e)))).1,λ b hb=>?_,w9⟩
    obtain⟨o,e,d⟩:=T.obj _ _ st7 b hb
    exact (I11.pin (b,o) (List.mem_append_right _ (List.mem_append_right _ (mem_pinsAt hb e)))).2.1
   | false =>
    rw[if_neg Bool.false_ne_true] at q9 ⊢
    obtain⟨m',hm',w9⟩:=q9
    refine⟨m',hm',i+1,ys,σ1,_,l1,I9.unpinned,T.keep _ _ _ st7 λ b hb o e=>(I9.pin (b,o) (List.mem_append_right _ (List.mem_append_right _ (mem_pinsAt hb e)))).1,λ b hb=>?_,w9⟩
    obtain⟨o,e,d⟩:=T.obj _ _ st7 b hb
    exact (I9.pin (b,o) (List.mem_append_right _ (List.mem_append_right _ (mem_pinsAt hb e)))).2.1
 have hst:=codeAny_compStart_list (loop _ rfl) (T.self X.A 0 _ _ _ st4 (loop _ rfl))
 exact hst
theorem pe_compG (hc:X.calm=true) (O:CompOkL X xs ts scope cl) (hi:PI X tg iter wi) (hg:∀ C s3 H3 fp,PG (cxComp X (nmsL xs ts) scope cl C s3 H3 fp) tg g)
  (ht:∀ C s3 H3 fp,PIf (cxComp X (nmsL xs ts) scope cl C s3 H3 fp) ifs tt) (he:∀ C s3 H3 fp,PE (cxComp X (nmsL xs ts) scope cl C s3 H3 fp) elt te)
  (hs:∀ x,foldedSetIterable iter X.env x=pure x:=by intro _;rfl):PE X (.ListComp elt [⟨tg,iter,ifs,0⟩] scope pos) (tCompG wi g tt xs.length (sltOf ts) te):=by
 intro pins s σ H Q I h
 rw[eval_ListComp]
 refine compG_run (use:=none) hc O hi hg ht he hs I h λ D C s6 H5 I6 fC ⟨m,hn⟩ q=>?_
 refine⟨m,hn,λ h' sb=>⟨.ref D,H5,?_,rfl,q⟩⟩
 exact I6.turned (it:=C) (t':=s6.toks) (λ b o hb e=>(sb.2 b hb).trans e) fC.1 fC.2.1 fC.2.2.2.1 fC.2.2.2.2.1 fC.2.2.2.2.2
theorem ps_setC {i:Nat}{x:Str}{pos' sp:Pos} (hN:X.N.Nodup) (hix:X.N[i]? = some x) (hx:Loc X.env.scope x) (hc:X.calm=true) (O:CompOkL X xs ts scope cl) (hi:PI X tg iter wi) (hg:∀ C s3 H3 fp,PG (cxComp X (nmsL xs ts) scope cl C s3 H3 fp) tg g)
  (ht:∀ C s3 H3 fp,PIf (cxComp X (nmsL xs ts) scope cl C s3 H3 fp) ifs tt) (he:∀ C s3 H3 fp,PE (cxComp X (nmsL xs ts) scope cl C s3 H3 fp) elt te)
  (hs:∀ x,foldedSetIterable iter X.env x=pure x:=by intro _;rfl) (hw:swapsWith (.ListComp elt [⟨tg,iter,ifs,0⟩] scope pos) (some (.Name x pos')) sp.line X.env=pure true:=by rfl)
  (hf:X.fn x=true∨X.env.scope.names.lookup x=some .local:=by first | exact .inl rfl | exact .inr rfl | assumption) :
  PS X (.Assign [.Name x pos'] (.ListComp elt [⟨tg,iter,ifs,0⟩] scope pos) sp) (tAsg (tCompG wi g tt xs.length (sltOf ts) te) (gName i)):=by
 intro pins s σ H D I h
 rw[exec_Assign_Name_used x pos' _ sp hw]
 refine wpAny_bind (wpAny_standAt (wpAny_bind ?_))
 show wpAny _ _ ((comprehension _ scope X.env _ (newList []) _ _ (some _)) >>= λ _=>pure ()) _ _ s
 refine wpAny_bind (compG_run (use:=some (assign (.Name x pos') X.env)) hc O hi hg ht he hs I h λ A C s6 H5 I6 fC ⟨m,hn⟩ q=>?_)
 obtain⟨o,es,ep,ho,r⟩:=id hn
 have onlyC:∀ b:Addr,b∈[C]->b=C:=λ b hb=>by simpa using hb
 have I6':=I6.pinned (fp:=[C]) (λ b hb=>onlyC b hb ▸ fC) (λ b hb=>by
  rw[onlyC b hb]
  exact⟨o,ho,λ v z=>by rw[r.1] at z;cases z⟩)
 refine wpAny_assign_Name (store_ok I6' hN hix hx (v:=.ref A) rfl (λ s7 I7=>?_) hf)
 have e7:s7.heap.get? C=some o:=(I7.pin (C,o) (List.mem_append_right _ (List.mem_append_right _ (mem_pinsAt (by simp) ho)))).1
 refine⟨m,⟨o,es,ep,e7,r⟩,λ h' sb=>wpAny_pure (wpAny_pure ⟨_,H5,?_,q⟩)⟩
 exact I7.unpinned.turned (it:=C) (t':=s7.toks) (λ b o hb e=>(sb.2 b hb).trans e) fC.1 fC.2.1 fC.2.2.2.1 fC.2.2.2.2.1 fC.2.2.2.2.2
end
theorem pg_tupC {X:Cx}{N':List Str}{scope:Scope}{cl:List (Str×Addr)}{C:Addr}{s3:Shared}{H3:Hp}{fp:List Addr}{pos:Pos}{es:List Expr}{k:Nat}{t:TGs}{n:Nat} (hc:X.calm=true) (h:PGs (cxComp X N' scope cl C s3 H3 fp) es t)
  (hn:(assignEach es (cxComp X N' scope cl C s3 H3 fp).env).length=n:=by rfl) (hst:(assignEach es (cxComp X N' scope cl C s3 H3 fp).env).findIdx? (·.1)=none:=by rfl):PG (cxComp X N' scope cl C s3 H3 fp) (.Tuple es k pos) (gTup X.K n t):=pg_tup hc h hn hst
theorem sub0 {cs:List (Str×Addr)}:∀ (y:Str) (c:Addr),List.lookup y ([]:List (Str×Addr))=some c->cs.lookup y=some c:=λ _ _ h=>by cases h
end L2
set_option maxHeartbeats 4000000
namespace L2
open PySem PySem.Spec PyProof.Rows
section
variable {X:Cx}
noncomputable def rInsert:V->List V->Hp->VK->Prop:=λ x vs H Q=>∃ (l:Addr) (xs:List V) (i:Int) (y:V),x=.ref l/\vs = [.int i,y]/\H l=some (.lst xs)/\0<=i/\i.toNat<=xs.length/\xs.length<sizeLine/\Q .non (upd H l (.lst (xs.take i.toNat++y::xs.drop i.toNat)))
theorem ins_meets (l:Addr) (items:Array Value) (n:Nat) (x:Int) (u:Tok) (y:Value) (h0:0<=x) (h:x<2^63) (hs:items.size<=sizeLine):Meets (Builtin.«list.insert» {pos:=[Value.ref l,Value.int x u,y]}) λ x_1 R s =>
    s.heap.get? l=some {cls:=Value.type "list",data:=Data.seq items n} /\
     R (Except.ok (Flow.ret Value.none)) {s with heap:=s.heap.update l (Obj.mapSeq λ xs=>(xs.extract 0 (min x.toNat xs.size)).push y++xs.extract (min x.toNat xs.size))}:=by
 have hfit:¬(!Builtin.List.listFitsIndex x)=true:=by
  have:Builtin.List.listFitsIndex x=true:=by
   unfold Builtin.List.listFitsIndex
   simp
   omega
  rw[this];exact λ z=>nomatch z
 have M:=AutoSeq1.list_insert_list_int_val_1 l items n x u y hfit hs
 simp only[if_neg (show ¬ x<0 by omega)] at M
 exact M
theorem mt_insert:MtM X "list.insert" rInsert:=by
 intro pins s σ H x vs v us Q I rx rv h
 obtain⟨l,xs,i,y,rfl,rfl,hH,h0,hi,hz,q⟩:=h
 cases rx
 cases rv with
 | cons r1 rr =>
  obtain⟨t,rfl⟩:=r1
  obtain⟨u,rfl,ru⟩:=Vals.one rr
  obtain⟨z,its,n,r,hl,e⟩:=I.lstM hH
  have hsz:its.toArray.size<=sizeLine:=by rw[List.size_toArray];omega
  have hb:i<2^63:=by
   have:sizeLine=2^24:=rfl
   omega
  refine call_meets F.slot_list_insert ⟨_,e,rfl⟩ F.entry_list_insert (F.args_list_insert_3 (.ref l) (.int i t) u) (ins_meets l its.toArray n i t u h0 hb hsz) ⟨e,?_⟩
  refine⟨.non,_,I.lset (its':=its.take i.toNat++u::its.drop i.toNat) hH e ?_ ((r.take _).append (.cons ru (r.drop _))) ?_,rfl,q⟩
  ·have g:min i.toNat its.length=i.toNat:=by omega
   simp [g]
   exact List.take_of_length_le (by simp)
  ·simp;omega
end
end L2
set_option maxHeartbeats 4000000
namespace L2
open PySem PySem.Spec PyProof.Rows
section
variable {X:Cx}
noncomputable def Smk (i:Int):Prop:=i.natAbs<2^8900
theorem Smk.bits {i:Int} (h:Smk i):Builtin.Int.intBits i<=8900:=intBits_le_iff.mpr h
theorem mulOk_smk {i j:Int} (hi:Smk i) (hj:Smk j):IntMulOk i j:=by
 have h1:=hi.bits
 have h2:=hj.bits
 unfold IntMulOk Builtin.Int.intTooBig
 intro h
 have h4:=of_decide_eq_true (Bool.and_eq_true_iff.mp h).2
 rw[bitsLine_eq] at h4
 omega
theorem noPy_smk {i j:Int} (hj:Smk j):Builtin.divisionGoesByPylong i j=false:=by
 refine PyProof.noPylong_of_log2 ?_
 by_cases h0:j.natAbs=0
 ·rw[h0];decide +kernel
 ·have h:j.natAbs.log2<8900:=(Nat.log2_lt h0).mpr hj
  omega
theorem op_mulK:OpR X (binaryOp .Mult) (rI (λ i j=>Smk i/\Smk j) λ i j=>.int (i*j)):=opI λ _ _ _ _ _ _ _ hc q=>mul_int q (mulOk_smk hc.1 hc.2)
theorem op_fdivK:OpR X (binaryOp .FloorDiv) (rI (λ _ j=>j≠0/\Smk j) λ i j=>.int (i.fdiv j)):=opI λ _ _ _ _ _ _ _ hc q=>floordiv_int hc.1 q (.inl (noPy_smk hc.2))
end
section
variable {X:Cx}{N':List Str}{scope:Scope}{cl:List (Str×Addr)}{C:Addr}{s3:Shared}{H3:Hp}{fp:List Addr}
theorem ix_listC:IxR (cxComp X N' scope cl C s3 H3 fp) (rIxL X.K):=ix_list
end
theorem Rd.same {H H':Hp}{a:Addr}{u:HO} (e:Same H H') (h:Rd H a u):Rd H' a u:=by
 rcases h with h | ⟨o,h⟩
 ·exact .inl (e a _ h)
 ·exact .inr ⟨o,e a _ h⟩
theorem Same.tup {K:PySem.W.Frag}{H H':Hp}{a:Addr}{xs:List V} (e:Same H H') (h:SqT K H a xs):SqT K H' a xs:=by
 rcases h with h | h
 ·exact .inl (h.same e)
 ·exact .inr h
theorem same_upd {H1 H2:Hp}{D:Addr}{o:HO} (h:Same H1 H2) (hD:H1 D=none):Same H1 (upd H2 D o):=λ b u e=>by
 rw[upd_ne (ne_of_none e hD)];exact h b u e
theorem comp_rangeG {lo:Int}{n:Nat}{te:TE}{st:St}{H1:Hp}{Q:VK}{D:Addr} (f:Nat->V) (hD:H1 D=none) (hn:n<=sizeLine)
  (hs:∀ (i:Nat) (H2:Hp) (k:VK),i<n->Same H1 H2->(∀ H4,Same H2 H4->k (f i) H4)->te (some (.int (lo+i))::st) H2 k)
  (hd:∀ H2,Same H1 H2->H2 D=some (.lst ((List.range n).map f))->Q (.ref D) H2):CompG (Itr lo n) (gName 0) tYes te 1 st D H1 Q:=by
 refine⟨λ i m ys H2=>m=n-i/\i<=n/\ys=(List.range i).map f/\Same H1 H2/\H2 D=some (.lst ys),⟨n,by simp,Nat.zero_le _,rfl,same_upd (Same.refl H1) hD,upd_same⟩,?_⟩
 rintro i m ys H2 ⟨rfl,hi,rfl,sm,e⟩
 by_cases hlt:i<n
 ·refine .inr ⟨hlt,?_⟩
  rintro x H3 σ0 ⟨rfl,rfl⟩ l0
  obtain⟨a,rfl⟩:∃ a,σ0 = [a]:=by
   match σ0,l0 with
   | [a],_=>exact⟨a,rfl⟩
  refine⟨⟨[some (.int (lo+i))],rfl,rfl⟩,?_⟩
  have ln:((List.range i).map f).length=i:=by rw[List.length_map,List.length_range]
  refine hs i _ _ hlt sm λ H4 s4=>⟨s4 _ _ e,by rw[ln];omega,n-(i+1),by omega,rfl,hlt,?_,same_upd (sm.trans s4) hD,upd_same⟩
  rw[List.range_succ,List.map_append]<;>rfl
 ·have ei:i=n:=by omega
  subst ei
  exact .inl ⟨Nat.le_refl _,hd _ sm e⟩
end L2
set_option maxHeartbeats 4000000
namespace L2
open PySem PySem.Spec PyProof.Rows
mutual
noncomputable def eqTh:Th->Th->Bool
 | .int i,.int j=>i == j
 | .str x,.str y=>x == y
 | .non,.non=>true
 | .tup ts,.tup us=>eqThs ts us
 | .lst ts,.lst us=>eqThs ts us
 | _,_=>false
noncomputable def eqThs:List Th->List Th->Bool
 | [],[]=>true
 | t::ts,u::us=>eqTh t u && eqThs ts us
 | _,_=>false
end
mutual
noncomputable def cmpTh:Th->Th->Bool
 | .int _,.int _=>true
 | .str _,.str _=>true
 | .non,.non=>true
 | .tup ts,.tup us=>cmpThs ts us
 | .lst ts,.lst us=>cmpThs ts us && ts.length == us.length
 | _,_=>false
noncomputable def cmpThs:List Th->List Th->Bool
 | t::ts,u::us=>cmpTh t u && cmpThs ts us
 | _,_=>true
end
theorem cmpThs_at:∀ {ts us:List Th}{j:Nat}{t u:Th},cmpThs ts us=true->ts[j]? = some t->us[j]? = some u->cmpTh t u=true
 | t0::ts,u0::us,0,t,u,h,e1,e2=>by
  rw[List.getElem?_cons_zero] at e1 e2
  cases e1;cases e2
  simp only[cmpThs,Bool.and_eq_true] at h
  exact h.1
 | t0::ts,u0::us,j+1,t,u,h,e1,e2=>by
  rw[List.getElem?_cons_succ] at e1 e2
  simp only[cmpThs,Bool.and_eq_true] at h
  exact cmpThs_at h.2 e1 e2
noncomputable def eqAtJ (ts us:List Th) (j:Nat):Bool:=match ts[j]?,us[j]? with
 | some t,some u=>eqTh t u
 | _,_=>true
theorem eqThs_all:∀ (ts us:List Th),((List.range (min ts.length us.length)).all (eqAtJ ts us) && ts.length == us.length)=eqThs ts us
 | [],[]=>by simp [eqThs]
 | [],u::us=>by simp [eqThs]
 | t::ts,[]=>by simp [eqThs]
 | t::ts,u::us=>by
  have ih:=eqThs_all ts us
  have e1:min (t::ts).length (u::us).length=min ts.length us.length+1:=by simp only[List.length_cons];omega
  have e2:((t::ts).length == (u::us).length)=(ts.length == us.length):=by
   simp only[List.length_cons]
   cases h:ts.length == us.length
   ·have:ts.length≠us.length:=by simpa using h
    simp;omega
   ·have:ts.length=us.length:=by simpa using h
    simp [this]
  rw[e1,e2,List.range_succ_eq_map,List.all_cons,List.all_map]
  have e3:eqAtJ (t::ts) (u::us) 0=eqTh t u:=by simp [eqAtJ]
  have e4:(eqAtJ (t::ts) (u::us) ∘ Nat.succ)=eqAtJ ts us:=by
   funext j
   simp [eqAtJ,Function.comp]
  rw[e3,e4,eqThs,<-ih,Bool.and_assoc]
mutual
theorem eqTh_refl:∀ {t:Th},cmpTh t t=true->eqTh t t=true
 | .int i,_=>by simp [eqTh]
 | .str x,_=>by simp [eqTh]
 | .non,_=>by simp [eqTh]
 | .tup ts,h=>by rw[cmpTh] at h;rw[eqTh];exact eqThs_refl h
 | .lst ts,h=>by rw[cmpTh,Bool.and_eq_true] at h;rw[eqTh];exact eqThs_refl h.1
 | .bl b,h=>by simp [cmpTh] at h
 | .emp,h=>by simp [cmpTh] at h
 | .dic,h=>by simp [cmpTh] at h
theorem eqThs_refl:∀ {ts:List Th},cmpThs ts ts=true->eqThs ts ts=true
 | [],_=>by simp [eqThs]
 | t::ts,h=>by
  rw[cmpThs,Bool.and_eq_true] at h
  rw[eqThs,Bool.and_eq_true]
  exact⟨eqTh_refl h.1,eqThs_refl h.2⟩
end
theorem cmp_int {i:Int}{u:Th} (c:cmpTh (.int i) u=true):∃ j,u=.int j:=by cases u<;>first | exact⟨_,rfl⟩ | cases c
theorem cmp_str {i:Str}{u:Th} (c:cmpTh (.str i) u=true):∃ j,u=.str j:=by cases u<;>first | exact⟨_,rfl⟩ | cases c
theorem cmp_non {u:Th} (c:cmpTh .non u=true):u=.non:=by cases u<;>first | rfl | cases c
theorem cmp_tup {i:List Th}{u:Th} (c:cmpTh (.tup i) u=true):∃ j,u=.tup j:=by cases u<;>first | exact⟨_,rfl⟩ | cases c
theorem cmp_lst {i:List Th}{u:Th} (c:cmpTh (.lst i) u=true):∃ j,u=.lst j:=by cases u<;>first | exact⟨_,rfl⟩ | cases c
theorem cmp_bl {b:Bool}{u:Th} (c:cmpTh (.bl b) u=true):False:=by cases u<;>cases c
theorem cmp_emp {u:Th} (c:cmpTh .emp u=true):False:=by cases u<;>cases c
theorem cmp_dic {u:Th} (c:cmpTh .dic u=true):False:=by cases u<;>cases c
mutual
theorem Den.inj {H:Hp}:∀ {t u:Th}{v:V},cmpTh t u=true->Den H t v->Den H u v->t=u
 | .bl _,u,v,c,d1,d2=>(cmp_bl c).elim
 | .emp,u,v,c,d1,d2=>(cmp_emp c).elim
 | .dic,u,v,c,d1,d2=>(cmp_dic c).elim
 | .int i,u,v,c,d1,d2=>by
  obtain⟨j,rfl⟩:=cmp_int c
  cases (show v=V.int i from d1);cases (show V.int i=V.int j from d2);rfl
 | .str i,u,v,c,d1,d2=>by
  obtain⟨j,rfl⟩:=cmp_str c
  cases (show v=V.str i from d1);cases (show V.str i=V.str j from d2);rfl
 | .non,u,v,c,d1,d2=>(cmp_non c).symm
 | .tup ts,u,v,c,d1,d2=>by
  obtain⟨us,rfl⟩:=cmp_tup c
  obtain⟨a1,xs,rfl,h1,e1⟩:=d1
  obtain⟨a2,ys,e0,h2,e2⟩:=d2
  cases e0
  rw[h1] at h2
  cases h2
  rw[cmpTh] at c
  rw[Dens.inj c e1 e2]
 | .lst ts,u,v,c,d1,d2=>by
  obtain⟨us,rfl⟩:=cmp_lst c
  obtain⟨a1,xs,rfl,h1,e1⟩:=d1
  obtain⟨a2,ys,e0,h2,e2⟩:=d2
  cases e0
  rw[h1] at h2
  cases h2
  rw[cmpTh,Bool.and_eq_true] at c
  rw[Dens.inj c.1 e1 e2]
theorem Dens.inj {H:Hp}:∀ {ts us:List Th}{xs:List V},cmpThs ts us=true->Dens H ts xs->Dens H us xs->ts=us
 | [],[],_,_,_,_=>rfl
 | [],u::us,xs,_,d1,d2=>by
  have e1:=d1.len
  have e2:=d2.len
  simp at e1 e2
  rw[e1] at e2
  simp at e2
 | t::ts,[],xs,_,d1,d2=>by
  have e1:=d1.len
  have e2:=d2.len
  simp at e1 e2
  rw[e2] at e1
  simp at e1
 | t::ts,u::us,xs,c,d1,d2=>by
  obtain⟨x,r,rfl,p1,q1⟩:=d1
  obtain⟨x',r',e,p2,q2⟩:=d2
  cases e
  rw[cmpThs,Bool.and_eq_true] at c
  rw[Den.inj c.1 p1 p2,Dens.inj c.2 q1 q2]
end
theorem dens2_at {H:Hp}{ts us:List Th}{xs ys:List V}{vs ws:List Value} (d1:Dens H ts xs) (d2:Dens H us ys) (r1:Vals xs vs) (r2:Vals ys ws) (j:Nat) (h1:j<vs.toArray.size) (h2:j<ws.toArray.size) :
  ∃ t u v1 v2,ts[j]? = some t/\us[j]? = some u/\Den H t v1/\Den H u v2/\RelV v1 vs.toArray[j]/\RelV v2 ws.toArray[j]:=by
 have l1:j<ts.length:=by rw[<-d1.len,r1.length];simpa using h1
 have l2:j<us.length:=by rw[<-d2.len,r2.length];simpa using h2
 obtain⟨v1,e1,q1⟩:=d1.get (List.getElem?_eq_getElem l1)
 obtain⟨v2,e2,q2⟩:=d2.get (List.getElem?_eq_getElem l2)
 obtain⟨u1,f1,g1⟩:=r1.get e1
 obtain⟨u2,f2,g2⟩:=r2.get e2
 have k1:vs.toArray[j]=u1:=by
  have:vs[j]? = some vs.toArray[j]:=by simp
  rw[this] at f1;exact Option.some.inj f1
 have k2:ws.toArray[j]=u2:=by
  have:ws[j]? = some ws.toArray[j]:=by simp
  rw[this] at f2;exact Option.some.inj f2
 exact⟨_,_,v1,v2,List.getElem?_eq_getElem l1,List.getElem?_eq_getElem l2,q1,q2,by rw[k1];exact g1,by rw[k2];exact g2⟩
noncomputable def EqIH (H:Hp) (s:Shared) (n:Nat):Prop:=∀ (A:Around) (t u:Th) (v1 v2:V) (u1 u2:Value),depT t<=n->A.units+n<cLine->cmpTh t u=true->Den H t v1->Den H u v2->RelV v1 u1->RelV v2 u2->SeqAt.EqAt A s u1 u2 (eqTh t u)
theorem eqQ_tup {P:Program}{w:World}{H:Hp}{s:Shared} (hok:HOk P w H s.heap) {n:Nat} (ih:EqIH H s n) {A:Around}{ts us:List Th}{v1 v2:V}{u1 u2:Value} (hd':depTs ts<=n) (hu:A.units+(n+1)<cLine) (hc:cmpTh (.tup ts) (.tup us)=true)
  (d1:Den H (.tup ts) v1) (d2:Den H (.tup us) v2) (r1:RelV v1 u1) (r2:RelV v2 u2):SeqAt.EqAt A s u1 u2 (eqTh (.tup ts) (.tup us)):=by
 by_cases hv:v1=v2
 ·subst hv
  have e:=Den.inj hc d1 d2
  cases e
  rw[eqTh_refl hc]
  obtain⟨a1,xs,rfl,h1,e1⟩:=d1
  cases (show u1=Value.ref a1 from r1);cases (show u2=Value.ref a1 from r2)
  exact SeqAt.EqAt.same _
 obtain⟨a1,xs,rfl,h1,e1⟩:=d1
 obtain⟨a2,ys,rfl,h2,e2⟩:=d2
 have hne:a1≠a2:=λ z=>hv (by rw[z])
 cases (show u1=Value.ref a1 from r1);cases (show u2=Value.ref a2 from r2)
 obtain⟨_,ws1,q1,g1⟩:=(show ObjOk P w H s.heap a1 (.tup xs) from hok a1 _ h1)
 obtain⟨_,ws2,q2,g2⟩:=(show ObjOk P w H s.heap a2 (.tup ys) from hok a2 _ h2)
 have z1:ws1.toArray.size=ts.length:=by rw[List.size_toArray,<-q1.length,e1.len]
 have z2:ws2.toArray.size=us.length:=by rw[List.size_toArray,<-q2.length,e2.len]
 rw[cmpTh] at hc
 have h:=SeqAt.RcAt.tuples (A:=A) (s:=s) (e:=eqAtJ ts us) (show s.heap.IsTuple a1 ws1.toArray from g1) (show s.heap.IsTuple a2 ws2.toArray from g2) (by omega) λ j j1 j2=>by
  obtain⟨t,u,w1,w2,ht,hu',p1,p2,s1,s2⟩:=dens2_at e1 e2 q1 q2 j j1 j2
  have e:eqAtJ ts us j=eqTh t u:=by unfold eqAtJ;rw[ht,hu']
  rw[e]
  exact ih A.in1 t u w1 w2 _ _ (by have:=depTs_mem ht;omega) (by show A.units+1+n<cLine;omega) (cmpThs_at hc ht hu') p1 p2 s1 s2
 rw[z1,z2,eqThs_all] at h
 rw[eqTh]
 exact SeqAt.EqAt.of_refs hne h
theorem eqQ_lst {P:Program}{w:World}{H:Hp}{s:Shared} (hok:HOk P w H s.heap) {n:Nat} (ih:EqIH H s n) {A:Around}{ts us:List Th}{v1 v2:V}{u1 u2:Value} (hd':depTs ts<=n) (hu:A.units+(n+1)<cLine) (hc:cmpTh (.lst ts) (.lst us)=true)
  (d1:Den H (.lst ts) v1) (d2:Den H (.lst us) v2) (r1:RelV v1 u1) (r2:RelV v2 u2):SeqAt.EqAt A s u1 u2 (eqTh (.lst ts) (.lst us)):=by
 by_cases hv:v1=v2
 ·subst hv
  have e:=Den.inj hc d1 d2
  cases e
  rw[eqTh_refl hc]
  obtain⟨a1,xs,rfl,h1,e1⟩:=d1
  cases (show u1=Value.ref a1 from r1);cases (show u2=Value.ref a1 from r2)
  exact SeqAt.EqAt.same _
 obtain⟨a1,xs,rfl,h1,e1⟩:=d1
 obtain⟨a2,ys,rfl,h2,e2⟩:=d2
 have hne:a1≠a2:=λ z=>hv (by rw[z])
 cases (show u1=Value.ref a1 from r1);cases (show u2=Value.ref a2 from r2)
 obtain⟨_,ws1,n1,q1,g1⟩:=(show ObjOk P w H s.heap a1 (.lst xs) from hok a1 _ h1)
 obtain⟨_,ws2,n2,q2,g2⟩:=(show ObjOk P w H s.heap a2 (.lst ys) from hok a2 _ h2)
 have z1:ws1.toArray.size=ts.length:=by rw[List.size_toArray,<-q1.length,e1.len]
 have z2:ws2.toArray.size=us.length:=by rw[List.size_toArray,<-q2.length,e2.len]
 rw[cmpTh,Bool.and_eq_true] at hc
 have hl:ts.length=us.length:=by simpa using hc.2
 have h:=SeqAt.RcAt.lists (A:=A) (s:=s) (e:=eqAtJ ts us) (⟨_,g1,rfl,_,rfl⟩:s.heap.IsList a1 ws1.toArray) (⟨_,g2,rfl,_,rfl⟩:s.heap.IsList a2 ws2.toArray) (by rw[z1,z2,hl]) (by omega) λ j j1 j2=>by
  obtain⟨t,u,w1,w2,ht,hu',p1,p2,s1,s2⟩:=dens2_at e1 e2 q1 q2 j j1 j2
  have e:eqAtJ ts us j=eqTh t u:=by unfold eqAtJ;rw[ht,hu']
  rw[e]
  exact ih A.in1 t u w1 w2 _ _ (by have:=depTs_mem ht;omega) (by show A.units+1+n<cLine;omega) (cmpThs_at hc.1 ht hu') p1 p2 s1 s2
 have ha:=eqThs_all ts us
 rw[hl,Nat.min_self,beq_self_eq_true,Bool.and_true] at ha
 rw[z1,hl,ha] at h
 rw[eqTh]
 exact SeqAt.EqAt.of_refs hne h
theorem eqQ {P:Program}{w:World}{H:Hp}{s:Shared} (hok:HOk P w H s.heap) (n:Nat):EqIH H s n:=by
 induction n with
 | zero =>
  intro A t u v1 v2 u1 u2 hd hu hc d1 d2 r1 r2
  cases t with
  | int i=>cases u with
   | int j =>
    cases (show v1=V.int i from d1);cases (show v2=V.int j from d2)
    obtain⟨k1,rfl⟩:=(show ∃ k,u1=Value.int i k from r1)
    obtain⟨k2,rfl⟩:=(show ∃ k,u2=Value.int j k from r2)
    rw[eqTh]
    exact SeqAt.EqAt.int_int (A:=A) (s:=s) i k1 j k2
   | _=>simp [cmpTh] at hc
  | str i=>cases u with
   | str j =>
    cases (show v1=V.str i from d1);cases (show v2=V.str j from d2)
    obtain⟨k1,rfl⟩:=(show ∃ k,u1=Value.str i k from r1)
    obtain⟨k2,rfl⟩:=(show ∃ k,u2=Value.str j k from r2)
    rw[eqTh]
    exact SeqAt.EqAt.str_str (A:=A) (s:=s) i k1 j k2
   | _=>simp [cmpTh] at hc
  | non=>cases u with
   | non =>
    cases (show v1=V.non from d1);cases (show v2=V.non from d2)
    cases (show u1=Value.none from r1);cases (show u2=Value.none from r2)
    rw[eqTh]
    exact SeqAt.EqAt.same _
   | _=>simp [cmpTh] at hc
  | tup ts=>simp [depT] at hd
  | lst ts=>simp [depT] at hd
  | bl b=>simp [cmpTh] at hc
  | emp=>simp [cmpTh] at hc
  | dic=>simp [cmpTh] at hc
 | succ n ih =>
  intro A t u v1 v2 u1 u2 hd hu hc d1 d2 r1 r2
  cases t with
  | int i=>exact ih A _ u v1 v2 u1 u2 (by simp [depT]) (by omega) hc d1 d2 r1 r2
  | str i=>exact ih A _ u v1 v2 u1 u2 (by simp [depT]) (by omega) hc d1 d2 r1 r2
  | non=>exact ih A _ u v1 v2 u1 u2 (by simp [depT]) (by omega) hc d1 d2 r1 r2
  | tup ts=>cases u with
   | tup us=>exact eqQ_tup hok ih (by simp [depT] at hd;omega) hu hc d1 d2 r1 r2
   | _=>simp [cmpTh] at hc
  | lst ts=>cases u with
   | lst us=>exact eqQ_lst hok ih (by simp [depT] at hd;omega) hu hc d1 d2 r1 r2
   | _=>simp [cmpTh] at hc
  | bl b=>simp [cmpTh] at hc
  | emp=>simp [cmpTh] at hc
  | dic=>simp [cmpTh] at hc
section
variable {X:Cx}
end
theorem subL {cs:List (Str×Addr)}:∀ {l:List (Str×Addr)},(∀ p∈l,cs.lookup p.1=some p.2)->∀ (y:Str) (c:Addr),l.lookup y=some c->cs.lookup y=some c
 | [],_,y,c,h=>by cases h
 | p::l,k,y,c,h=>by
  rw[List.lookup_cons] at h
  by_cases e:(y == p.1)=true
  ·rw[e] at h
   have h':p.2=c:=Option.some.inj h
   have ey:y=p.1:=beq_iff_eq.mp e
   rw[ey,<-h']
   exact k p (List.mem_cons_self ..)
  ·have e':(y == p.1)=false:=Bool.eq_false_iff.mpr e
   rw[e'] at h
   exact subL (λ q hq=>k q (List.mem_cons_of_mem _ hq)) y c h
theorem sub2 {cs:List (Str×Addr)}{x1 x2:Str}{c1 c2:Addr} (h1:cs.lookup x1=some c1) (h2:cs.lookup x2=some c2):∀ (y:Str) (c:Addr),List.lookup y [(x1,c1),(x2,c2)]=some c->cs.lookup y=some c :=
 subL λ p hp=>by
  simp only[List.mem_cons,List.not_mem_nil,or_false] at hp
  rcases hp with rfl | rfl<;>assumption
theorem comp_rangeR {lo:Int}{n:Nat}{te:TE}{st:St}{H1:Hp}{Q:VK}{D:Addr} (R:Nat->List V->Hp->Prop) (hD:H1 D=none) (hn:n<=sizeLine) (h0:R 0 [] (upd H1 D (.lst [])))
  (hs:∀ (i:Nat) (ys:List V) (H2:Hp) (k:VK),i<n->Same H1 H2->H2 D=some (.lst ys)->R i ys H2->(∀ y H4,Same H2 H4->R (i+1) (ys++[y]) (upd H4 D (.lst (ys++[y])))->k y H4)->te (some (.int (lo+i))::st) H2 k)
  (hd:∀ ys H2,Same H1 H2->H2 D=some (.lst ys)->ys.length=n->R n ys H2->Q (.ref D) H2):CompGo (Itr lo n) te st D H1 Q:=by
 refine⟨λ i m ys H2=>m=n-i/\i<=n/\ys.length=i/\Same H1 H2/\H2 D=some (.lst ys)/\R i ys H2,⟨n,by simp,Nat.zero_le _,rfl,same_upd (Same.refl H1) hD,upd_same,h0⟩,?_⟩
 rintro i m ys H2 ⟨rfl,hi,hl,sm,e,r⟩
 by_cases hlt:i<n
 ·refine .inr ⟨hlt,?_⟩
  rintro x H3 ⟨rfl,rfl⟩
  refine hs i ys _ _ hlt sm e r λ y H4 s4 r4=>⟨s4 _ _ e,by omega,n-(i+1),by omega,rfl,hlt,by simp [hl],same_upd (sm.trans s4) hD,upd_same,r4⟩
 ·have ei:i=n:=by omega
  subst ei
  exact .inl ⟨Nat.le_refl _,hd ys H2 sm e hl r⟩
end L2
set_option maxHeartbeats 4000000
namespace L2
open PySem PySem.Spec PyProof.Rows
theorem comp_pairF {α:Type}{K:PySem.W.Frag}{a:Addr}{xs:List V}{te:TE}{tt:TT}{st:St}{H1:Hp}{Q:VK}{D:Addr} (ps:List α) (p:α->Bool) (R:α->V->V->Prop) (hD:H1 D=none) (q1:SqT K H1 a xs) (hl:xs.length=ps.length) (hn:xs.length<=sizeLine)
  (hx:∀ (i:Nat) (h:α),ps[i]? = some h->∃ b u v,xs[i]? = some (.ref b)/\H1 b=some (.tup [u,v])/\R h u v)
  (ht:∀ (h:α) (u v:V) (H2:Hp) (k:Bool->Hp->Prop),R h u v->Same H1 H2->(∀ H4,Same H2 H4->k (p h) H4)->tt (some u::some v::st) H2 k)
  (hs:∀ (h:α) (u v:V) (H2:Hp) (k:VK),R h u v->Same H1 H2->(∀ x H4,Same H2 H4->k x H4)->te (some u::some v::st) H2 k)
  (hd:∀ H2 ys,Same H1 H2->H2 D=some (.lst ys)->ys.length=(ps.filter p).length->Q (.ref D) H2):CompG (Itt K a) (gTup K 2 (gCons (gName 0) (gCons (gName 1) gNil))) tt te 2 st D H1 Q:=by
 refine⟨λ i m zs H2=>m=xs.length-i/\i<=xs.length/\zs.length=((ps.take i).filter p).length/\Same H1 H2/\H2 D=some (.lst zs),⟨xs.length,by simp,Nat.zero_le _,by simp,same_upd (Same.refl H1) hD,upd_same⟩,?_⟩
 rintro i m zs H2 ⟨rfl,hi,hz,sm,e⟩
 by_cases hlt:i<xs.length
 ·have ex:xs[i]? = some xs[i]:=List.getElem?_eq_getElem hlt
  obtain⟨h,ep⟩:∃ h,ps[i]? = some h:=⟨_,List.getElem?_eq_getElem (show i<ps.length by omega)⟩
  obtain⟨b,u,v,e1,e2,r⟩:=hx i h ep
  refine .inr ⟨⟨xs,_,sm.tup q1,ex⟩,?_⟩
  rintro x H3 σ0 ⟨rfl,hx'⟩ l0
  have hx2:=hx' xs (sm.tup q1)
  rw[e1] at hx2
  cases hx2
  obtain⟨a',b',rfl⟩:∃ a b,σ0 = [a,b]:=by
   match σ0,l0 with
   | [a,b],_=>exact⟨a,b,rfl⟩
  refine⟨b,[u,v],rfl,SqT.of (sm _ _ e2),rfl,u,[v],rfl,v,[],rfl,rfl,⟨[some u,some v],rfl,rfl⟩,?_⟩
  have tk:ps.take (i+1)=ps.take i++[h]:=by rw[List.take_add_one,ep];rfl
  have ln:((ps.take i).filter p).length<=i:=Nat.le_trans (List.length_filter_le _ _) (by simp;omega)
  refine ht h u v _ _ r sm λ H4 s4=>?_
  cases hp:p h with
  | true =>
   rw[if_pos rfl]
   refine hs h u v _ _ r (sm.trans s4) λ y H5 s5=>⟨s5 _ _ (s4 _ _ e),by omega,xs.length-(i+1),by omega,rfl,hlt,?_,same_upd (sm.trans (s4.trans s5)) hD,upd_same⟩
   rw[tk,List.filter_append]
   simp [hp,hz]
  | false =>
   rw[if_neg Bool.false_ne_true]
   refine⟨xs.length-(i+1),by omega,rfl,hlt,?_,sm.trans s4,s4 _ _ e⟩
   rw[tk,List.filter_append]
   simp [hp,hz]
 ·have ei:i=xs.length:=by omega
  subst ei
  refine .inl ⟨⟨xs,sm.tup q1,Nat.le_refl _⟩,hd _ zs sm e ?_⟩
  rw[hz,List.take_of_length_le (by omega)]
theorem comp_listC {α:Type}{K:PySem.W.Frag}{a:Addr}{xs:List V}{te:TE}{tt:TT}{st:St}{H1:Hp}{Q:VK}{D:Addr} (ps:List α) (p:α->Bool) (R:α->V->Prop) (hD:H1 D=none) (q1:SqL K H1 a xs) (hl:xs.length=ps.length) (hn:xs.length<=sizeLine)
  (hx:∀ (i:Nat) (h:α),ps[i]? = some h->∃ u,xs[i]? = some u/\R h u)
  (ht:∀ (h:α) (u:V) (H2:Hp) (k:Bool->Hp->Prop),R h u->Same H1 H2->(∀ H4,Same H2 H4->k (p h) H4)->tt (some u::st) H2 k)
  (hs:∀ (h:α) (u:V) (H2:Hp) (k:VK),R h u->Same H1 H2->(∀ x H4,Same H2 H4->k x H4)->te (some u::st) H2 k)
  (hd:∀ H2 ys,Same H1 H2->H2 D=some (.lst ys)->ys.length=(ps.filter p).length->Q (.ref D) H2):CompG (Itl K a) (gName 0) tt te 1 st D H1 Q:=by
 refine⟨λ i m zs H2=>m=xs.length-i/\i<=xs.length/\zs.length=((ps.take i).filter p).length/\Same H1 H2/\H2 D=some (.lst zs),⟨xs.length,by simp,Nat.zero_le _,by simp,same_upd (Same.refl H1) hD,upd_same⟩,?_⟩
 rintro i m zs H2 ⟨rfl,hi,hz,sm,e⟩
 by_cases hlt:i<xs.length
 ·have ex:xs[i]? = some xs[i]:=List.getElem?_eq_getElem hlt
  obtain⟨h,ep⟩:∃ h,ps[i]? = some h:=⟨_,List.getElem?_eq_getElem (show i<ps.length by omega)⟩
  obtain⟨u,e1,r⟩:=hx i h ep
  refine .inr ⟨⟨xs,_,sm.seq q1,ex⟩,?_⟩
  rintro x H3 σ0 ⟨rfl,hx'⟩ l0
  have hx2:=hx' xs (sm.seq q1)
  rw[e1] at hx2
  cases hx2
  obtain⟨a',rfl⟩:∃ a,σ0 = [a]:=by
   match σ0,l0 with
   | [a],_=>exact⟨a,rfl⟩
  refine⟨⟨[some u],rfl,rfl⟩,?_⟩
  have tk:ps.take (i+1)=ps.take i++[h]:=by rw[List.take_add_one,ep];rfl
  have ln:((ps.take i).filter p).length<=i:=Nat.le_trans (List.length_filter_le _ _) (by simp;omega)
  refine ht h u _ _ r sm λ H4 s4=>?_
  cases hp:p h with
  | true =>
   rw[if_pos rfl]
   refine hs h u _ _ r (sm.trans s4) λ y H5 s5=>⟨s5 _ _ (s4 _ _ e),by omega,xs.length-(i+1),by omega,rfl,hlt,?_,same_upd (sm.trans (s4.trans s5)) hD,upd_same⟩
   rw[tk,List.filter_append]
   simp [hp,hz]
  | false =>
   rw[if_neg Bool.false_ne_true]
   refine⟨xs.length-(i+1),by omega,rfl,hlt,?_,sm.trans s4,s4 _ _ e⟩
   rw[tk,List.filter_append]
   simp [hp,hz]
 ·have ei:i=xs.length:=by omega
  subst ei
  refine .inl ⟨⟨xs,sm.seq q1,Nat.le_refl _⟩,hd _ zs sm e ?_⟩
  rw[hz,List.take_of_length_le (by omega)]
theorem comp_zipR {K:PySem.W.Frag}{l1 l2:Addr}{xs ys:List V}{te:TE}{st:St}{H1:Hp}{Q:VK}{D:Addr}{n:Nat} (R:Nat->List V->Hp->Prop) (hD:H1 D=none) (q1:SqL K H1 l1 xs) (q2:SqL K H1 l2 ys) (n1:n<=xs.length) (n2:n<=ys.length) (ne:xs.length=n∨ys.length=n) (hn:n<=sizeLine) (h0:R 0 [] (upd H1 D (.lst [])))
  (hs:∀ (i:Nat) (x y:V) (zs:List V) (H2 H3:Hp) (k:VK),i<n->xs[i]? = some x->ys[i]? = some y->Same H1 H2->Same H2 H3->H2 D=some (.lst zs)->R i zs H2->(∀ z H4,Same H3 H4->R (i+1) (zs++[z]) (upd H4 D (.lst (zs++[z])))->k z H4)->te (some x::some y::st) H3 k)
  (hd:∀ zs H2,Same H1 H2->H2 D=some (.lst zs)->zs.length=n->R n zs H2->Q (.ref D) H2):CompG (Itz K l1 l2) (gTup K 2 (gCons (gName 0) (gCons (gName 1) gNil))) tYes te 2 st D H1 Q:=by
 refine⟨λ i m zs H2=>m=n-i/\i<=n/\zs.length=i/\Same H1 H2/\H2 D=some (.lst zs)/\R i zs H2,⟨n,by simp,Nat.zero_le _,rfl,same_upd (Same.refl H1) hD,upd_same,h0⟩,?_⟩
 rintro i m zs H2 ⟨rfl,hi,hz,sm,e,r⟩
 by_cases hlt:i<n
 ·have ex:xs[i]? = some (xs[i]'(by omega)):=List.getElem?_eq_getElem (by omega)
  have ey:ys[i]? = some (ys[i]'(by omega)):=List.getElem?_eq_getElem (by omega)
  refine .inr ⟨⟨xs,ys,_,_,sm.seq q1,sm.seq q2,ex,ey⟩,?_⟩
  rintro v H3 σ0 ⟨T,x,y,fr,rfl,rfl,hx,hy⟩ l0
  have hx':=hx xs (sm.seq q1)
  have hy':=hy ys (sm.seq q2)
  obtain⟨a,b,rfl⟩:∃ a b,σ0 = [a,b]:=by
   match σ0,l0 with
   | [a,b],_=>exact⟨a,b,rfl⟩
  refine⟨T,[x,y],rfl,SqT.of upd_same,rfl,x,[y],rfl,y,[],rfl,rfl,⟨[some x,some y],rfl,rfl⟩,?_⟩
  have s3:Same H2 (upd H2 T (.tup [x,y])):=same_new fr _
  exact hs i x y zs H2 _ _ hlt hx' hy' sm s3 e r λ z H4 s4 r4=>⟨s4 _ _ (s3 _ _ e),by omega,n-(i+1),by omega,rfl,hlt,by simp [hz],same_upd (sm.trans (s3.trans s4)) hD,upd_same,r4⟩
 ·have ei:i=n:=by omega
  subst ei
  refine .inl ⟨⟨xs,ys,sm.seq q1,sm.seq q2,?_⟩,hd zs H2 sm e hz r⟩
  rcases ne with z | z
  ·exact .inl (by omega)
  ·exact .inr (by omega)
end L2
set_option maxHeartbeats 4000000
namespace L2
open PySem PySem.Spec PyProof.Rows
section
variable {prog:Program}{w:World}{A:Around}{E:Value->Shared->Prop}{s:Shared}
theorem tnext_item {j tu:Addr}{i:Nat}{its:Array Value}{v:Value}{Q:Value->Shared->Prop} (hj:s.heap.IsTupleIter j tu i) (ht:s.heap.IsTuple tu its) (hv:its[i]? = some v)
  (k:∀ g,g.IsTupleIter j tu (i+1)->Heap.SameBut j s.heap g->Q v {s with heap:=g}):wpAny (model prog w) A (Builtin.SmallTypes.nextOf (.ref j)) Q E s:=by
 obtain⟨oj,ej,cj,dj⟩:=id hj
 obtain⟨ot,et,_,nt,dt⟩:=ht
 unfold Builtin.SmallTypes.nextOf
 refine (wpAny_bind (wpAny_callSpecial?_slot (name:=Str.ofString "__next__") hj.typeIs F.slot_tuple_iterator_next (wpAny_call_entry F.slot_tuple_iterator_next hj.typeIs F.entry_tuple_iterator_next ?_ (F.args_tuple_iterator_next_1 _))))
 show wpAny _ _ (field (.ref j) 0 >>= _) _ _ s
 refine (wpAny_bind (wpAny_field ej dj (x:=.ref tu) rfl ?_))
 show wpAny _ _ (if (Value.ref tu == Value.none)=true then _ else _) _ _ s
 rw[if_neg (show ¬ ((Value.ref tu == Value.none)=true) from Bool.false_ne_true)]
 show wpAny _ _ (field (.ref j) 1 >>= _) _ _ s
 refine (wpAny_bind (wpAny_field ej dj (x:=.int i 0) rfl ?_))
 show wpAny _ _ (seqItems? (.ref tu) >>= _) _ _ s
 refine (wpAny_bind (wpAny_seqItems et dt ?_))
 simp only[Int.toNat_natCast,hv]
 refine (wpAny_bind (wpAny_setField ej dj (by simp) (wpAny_pure ⟨v,rfl,wpAny_pure (k _ ?_ (Heap.SameBut.update ..))⟩)))
 refine⟨_,Heap.get?_update_self _ ej (Obj.isFreed_of_fields (Obj.data_mapFields dj _)),(Obj.cls_mapFields ..).trans cj,?_⟩
 rw[Obj.data_mapFields dj]
 simp [rawInt]
theorem tnext_end {j tu:Addr}{i:Nat}{its:Array Value}{Q:Value->Shared->Prop} (hh:A.handled=none) (hj:s.heap.IsTupleIter j tu i) (ht:s.heap.IsTuple tu its) (hv:its[i]? = none)
  (k:∀ g e,Heap.ExtBut j s.heap g->(∃ o,g.get? e=some o/\o.cls=.type "StopIteration")->E (.ref e) {s with heap:=g}):wpAny (model prog w) A (Builtin.SmallTypes.nextOf (.ref j)) Q E s:=by
 obtain⟨oj,ej,cj,dj⟩:=id hj
 obtain⟨ot,et,_,nt,dt⟩:=ht
 unfold Builtin.SmallTypes.nextOf
 refine (wpAny_bind (wpAny_callSpecial?_slot (name:=Str.ofString "__next__") hj.typeIs F.slot_tuple_iterator_next (wpAny_call_entry F.slot_tuple_iterator_next hj.typeIs F.entry_tuple_iterator_next ?_ (F.args_tuple_iterator_next_1 _))))
 show wpAny _ _ (field (.ref j) 0 >>= _) _ _ s
 refine (wpAny_bind (wpAny_field ej dj (x:=.ref tu) rfl ?_))
 show wpAny _ _ (if (Value.ref tu == Value.none)=true then _ else _) _ _ s
 rw[if_neg (show ¬ ((Value.ref tu == Value.none)=true) from Bool.false_ne_true)]
 show wpAny _ _ (field (.ref j) 1 >>= _) _ _ s
 refine (wpAny_bind (wpAny_field ej dj (x:=.int i 0) rfl ?_))
 show wpAny _ _ (seqItems? (.ref tu) >>= _) _ _ s
 refine (wpAny_bind (wpAny_seqItems et dt ?_))
 simp only[Int.toNat_natCast,hv]
 refine (wpAny_bind (wpAny_rule (wpAny_bind (wpAny_setField ej dj (by simp) ?_))))
 show wpAny _ _ (newExc (.type "StopIteration") [] >>= _) (_) _ _
 refine (wpAny_bind ?_)
 simp only[newExc,newTuple]
 refine (wpAny_bind (wpAny_newObj_type ?_ (by size_fits)))
 refine (wpAny_bind (m:=firstArgMember _ _) (wpAny_of_eq (a:=Value.none) (by first | rfl | (simp only[firstArgMember];rfl)) ?_))
 refine (wpAny_newObj_type ?_ (by size_fits))
 simp only[raiseNew]
 refine (wpAny_bind (wpAny_handled ?_))
 rw[show A.in1.handled=none from hh]
 refine (wpAny_bind (wpAny_pure (wpAny_throw ?_)))
 exact k _ _ (((Heap.SameBut.update ..).extBut.push _).push _) ⟨_,Heap.get?_push_size _ rfl,rfl⟩
theorem zt_next {z TI TO j1 j2 t1 t2:Addr}{k1 k2:Nat}{xs ys:Array Value}{u v c d:Value}{Q:Value->Shared->Prop} (ap:ZipApart z TI TO j1 j2 t1 t2) (hz:IsZip s.heap z TI TO .none) (hI:IsPair s.heap TI (.ref j1) (.ref j2)) (hO:IsPair s.heap TO c d)
  (i1:s.heap.IsTupleIter j1 t1 k1) (i2:s.heap.IsTupleIter j2 t2 k2) (q1:s.heap.IsTuple t1 xs) (q2:s.heap.IsTuple t2 ys) (hu:xs[k1]? = some u) (hv:ys[k2]? = some v)
  (k:∀ g,IsZip g z TI TO (rawInt s.heap.objs.size)->IsPair g TO u v->g.IsTupleIter j1 t1 (k1+1)->g.IsTupleIter j2 t2 (k2+1)->IsPair g s.heap.objs.size u v->g.objs.size=s.heap.objs.size+1 ->
   (∀ b o,b≠z->b≠TO->b≠j1->b≠j2->s.heap.get? b=some o->g.get? b=some o)->Q (.ref s.heap.objs.size) {s with heap:=g}) :
  wpAny (model prog w) A (Builtin.«zip.__next__» ⟨[.ref z],[]⟩) (λ f s'=>∃ r,f=.done (.ret r)/\Q r s') E s:=by
 show wpAny _ _ (field (.ref z) 2 >>= _) (_) _ _
 refine (wpAny_bind (wpAny_field hz rfl (x:=.bool false) rfl ?_))
 show wpAny _ _ (field (.ref z) 3 >>= _) (_) _ _
 refine (wpAny_bind (wpAny_field hz rfl (x:=.ref TI) rfl ?_))
 refine (wpAny_bind (wpAny_seqItems hI rfl ?_))
 show wpAny _ _ (Builtin.SmallTypes.ownedTupleIsFree (.ref z) >>= _) (_) _ _
 refine (wpAny_bind ?_)
 unfold Builtin.SmallTypes.ownedTupleIsFree
 refine (wpAny_bind (wpAny_field hz rfl (x:=.none) rfl (wpAny_pure ?_)))
 simp only[if_true]
 refine (wpAny_bind (wpAny_rule ?_))
 refine (wpAny_bind (wpAny_field hz rfl (x:=.ref TO) rfl ?_))
 refine (wpAny_bind (wpAny_setField_rec hz (by simp) λ g1 z1 s1=>?_))
 replace z1:IsZip g1 z TI TO .ellipsis:=z1
 refine (wpAny_bind ?_)
 simp only[List.zipIdx_cons,List.zipIdx_nil,List.forIn_cons,List.forIn_nil,id]
 refine (wpAny_bind (wpAny_bind (wpAny_onRaise ?_)))
 show wpAny _ _ (Builtin.SmallTypes.nextOf (.ref j1) >>= _) (_) _ _
 refine (wpAny_bind (tnext_item (i1.extBut s1.extBut ap.i1z) (q1.extBut s1.extBut ap.l1z) hu λ g2 n1 s2=>wpAny_pure ?_))
 have O2:IsPair g2 TO c d:=s2.extBut _ _ ap.TOi1 (s1.extBut _ _ ap.TOz hO)
 refine (wpAny_bind (wpAny_seqItems O2 rfl ?_))
 refine (wpAny_bind (wpAny_updateSeq_pair O2 λ g3 O3 s3=>?_))
 replace O3:IsPair g3 TO u d:=O3
 refine (wpAny_bind (wpAny_letGo (wpAny_pure ?_)))
 refine (wpAny_bind (wpAny_bind (wpAny_onRaise ?_)))
 show wpAny _ _ (Builtin.SmallTypes.nextOf (.ref j2) >>= _) (_) _ _
 refine (wpAny_bind (tnext_item (((i2.extBut s1.extBut ap.i2z).extBut s2.extBut ap.i12.symm).extBut s3.extBut ap.TOi2.symm) (((q2.extBut s1.extBut ap.l2z).extBut s2.extBut ap.l2i1).extBut s3.extBut ap.l2TO) hv λ g4 n2 s4=>wpAny_pure ?_))
 have O4:IsPair g4 TO u d:=s4.extBut _ _ ap.TOi2 O3
 refine (wpAny_bind (wpAny_seqItems O4 rfl ?_))
 refine (wpAny_bind (wpAny_updateSeq_pair O4 λ g5 O5 s5=>?_))
 replace O5:IsPair g5 TO u v:=O5
 refine (wpAny_bind (wpAny_letGo (wpAny_pure (wpAny_pure ?_))))
 refine (wpAny_bind (wpAny_seqItems O5 rfl ?_))
 refine (wpAny_bind (wpAny_newTuple ?_))
 have sz:g5.objs.size=s.heap.objs.size:=by rw[s5.1,s4.1,s3.1,s2.1,s1.1]
 have Z5:IsZip g5 z TI TO .ellipsis:=s5.extBut _ _ ap.TOz.symm (s4.extBut _ _ ap.i2z.symm (s3.extBut _ _ ap.TOz.symm (s2.extBut _ _ ap.i1z.symm z1)))
 have K5:∀ b o,b≠z->b≠TO->b≠j1->b≠j2->s.heap.get? b=some o->g5.get? b=some o:=λ b o b1 b2 b3 b4 e=>s5.extBut _ _ b2 (s4.extBut _ _ b4 (s3.extBut _ _ b2 (s2.extBut _ _ b3 (s1.extBut _ _ b1 e))))
 have I1:g5.IsTupleIter j1 t1 (k1+1):=((n1.extBut s3.extBut ap.TOi1.symm).extBut s4.extBut ap.i12).extBut s5.extBut ap.TOi1.symm
 have I2:g5.IsTupleIter j2 t2 (k2+1):=n2.extBut s5.extBut ap.TOi2.symm
 have zlt:z<g5.objs.size:=Heap.lt_size Z5
 show wpAny _ _ (Builtin.SmallTypes.ownedTupleHandOut (.ref z) (.ref g5.objs.size) >>= _) (_) _ _
 refine (wpAny_bind ?_)
 unfold Builtin.SmallTypes.ownedTupleHandOut
 have Z6:IsZip (g5.push {cls:=.type "tuple",data:=.seq #[u,v]}) z TI TO .ellipsis:=Heap.get?_push_of_some _ Z5
 refine (wpAny_bind (wpAny_setField_rec Z6 (by simp) λ g7 Z7 s7=>?_))
 replace Z7:IsZip g7 z TI TO (rawInt g5.objs.size):=Z7
 refine wpAny_setField_rec Z7 (by simp) λ g8 Z8 s8=>?_
 replace Z8:IsZip g8 z TI TO (rawInt g5.objs.size):=Z8
 have up:∀ b o,b≠z->g5.get? b=some o->g8.get? b=some o:=λ b o nb e=>s8.extBut _ _ nb (s7.extBut _ _ nb (Heap.get?_push_of_some _ e))
 have T8:IsPair g8 g5.objs.size u v:=s8.extBut _ _ (Nat.ne_of_gt zlt) (s7.extBut _ _ (Nat.ne_of_gt zlt) (Heap.get?_push_size _ rfl))
 have N8:g8.objs.size=g5.objs.size+1:=by rw[s8.1,s7.1,Heap.size_push]
 rw[sz] at Z8 T8 N8
 refine wpAny_pure ⟨_,rfl,?_⟩
 show Q (.ref g5.objs.size) _
 rw[sz]
 exact k g8 Z8 (up _ _ ap.TOz O5) (I1.at λ o e=>up _ o ap.i1z e) (I2.at λ o e=>up _ o ap.i2z e) T8 N8 λ b o b1 b2 b3 b4 e=>up b o b1 (K5 b o b1 b2 b3 b4 e)
theorem zt_end {z TI TO j1 j2 t1 t2:Addr}{k1 k2:Nat}{xs ys:Array Value}{c d:Value}{Q:Fin->Shared->Prop} (hh:A.handled=none) (ap:ZipApart z TI TO j1 j2 t1 t2) (hz:IsZip s.heap z TI TO .none) (hI:IsPair s.heap TI (.ref j1) (.ref j2)) (hO:IsPair s.heap TO c d)
  (i1:s.heap.IsTupleIter j1 t1 k1) (i2:s.heap.IsTupleIter j2 t2 k2) (q1:s.heap.IsTuple t1 xs) (q2:s.heap.IsTuple t2 ys) (he:xs[k1]? = none∨ys[k2]? = none)
  (k:∀ g e,(∀ b o,b≠z->b≠TO->b≠j1->b≠j2->s.heap.get? b=some o->g.get? b=some o)->(∃ o,g.get? e=some o/\o.cls=.type "StopIteration")->E (.ref e) {s with heap:=g}) :
  wpAny (model prog w) A (Builtin.«zip.__next__» ⟨[.ref z],[]⟩) Q E s:=by
 show wpAny _ _ (field (.ref z) 2 >>= _) (_) _ _
 refine (wpAny_bind (wpAny_field hz rfl (x:=.bool false) rfl ?_))
 show wpAny _ _ (field (.ref z) 3 >>= _) (_) _ _
 refine (wpAny_bind (wpAny_field hz rfl (x:=.ref TI) rfl ?_))
 refine (wpAny_bind (wpAny_seqItems hI rfl ?_))
 show wpAny _ _ (Builtin.SmallTypes.ownedTupleIsFree (.ref z) >>= _) (_) _ _
 refine (wpAny_bind ?_)
 unfold Builtin.SmallTypes.ownedTupleIsFree
 refine (wpAny_bind (wpAny_field hz rfl (x:=.none) rfl (wpAny_pure ?_)))
 simp only[if_true]
 refine (wpAny_bind (wpAny_rule ?_))
 refine (wpAny_bind (wpAny_field hz rfl (x:=.ref TO) rfl ?_))
 refine (wpAny_bind (wpAny_setField_rec hz (by simp) λ g1 z1 s1=>?_))
 replace z1:IsZip g1 z TI TO .ellipsis:=z1
 refine (wpAny_bind ?_)
 simp only[List.zipIdx_cons,List.zipIdx_nil,List.forIn_cons,List.forIn_nil,id]
 refine (wpAny_bind (wpAny_bind (wpAny_onRaise ?_)))
 show wpAny _ _ (Builtin.SmallTypes.nextOf (.ref j1) >>= _) (_) _ _
 cases hu:xs[k1]? with
 | none =>
  refine (wpAny_bind (tnext_end hh (i1.extBut s1.extBut ap.i1z) (q1.extBut s1.extBut ap.l1z) hu λ g2 e s2 he=>?_))
  obtain⟨oe,ho,hc⟩:=he
  have Z2:IsZip g2 z TI TO .ellipsis:=s2 _ _ ap.i1z.symm z1
  have nz:e≠z:=λ x=>by
   subst x
   rw[Z2] at ho
   cases ho
   simp at hc
  refine wpAny_setField_rec Z2 (by simp) λ g3 _ s3=>k g3 e (λ b o b1 _ b3 _ x=>s3.extBut _ _ b1 (s2 _ _ b3 (s1.extBut _ _ b1 x))) ⟨oe,s3.extBut _ _ nz ho,hc⟩
 | some u =>
  have hv:ys[k2]? = none:=by
   rcases he with q | q
   ·rw[hu] at q;cases q
   ·exact q
  refine (wpAny_bind (tnext_item (i1.extBut s1.extBut ap.i1z) (q1.extBut s1.extBut ap.l1z) hu λ g2 n1 s2=>wpAny_pure ?_))
  have O2:IsPair g2 TO c d:=s2.extBut _ _ ap.TOi1 (s1.extBut _ _ ap.TOz hO)
  refine (wpAny_bind (wpAny_seqItems O2 rfl ?_))
  refine (wpAny_bind (wpAny_updateSeq_pair O2 λ g3 O3 s3=>?_))
  refine (wpAny_bind (wpAny_letGo (wpAny_pure ?_)))
  refine (wpAny_bind (wpAny_bind (wpAny_onRaise ?_)))
  show wpAny _ _ (Builtin.SmallTypes.nextOf (.ref j2) >>= _) (_) _ _
  refine (wpAny_bind (tnext_end hh (((i2.extBut s1.extBut ap.i2z).extBut s2.extBut ap.i12.symm).extBut s3.extBut ap.TOi2.symm) (((q2.extBut s1.extBut ap.l2z).extBut s2.extBut ap.l2i1).extBut s3.extBut ap.l2TO) hv λ g4 e s4 he=>?_))
  obtain⟨oe,ho,hc⟩:=he
  have Z4:IsZip g4 z TI TO .ellipsis:=s4 _ _ ap.i2z.symm (s3.extBut _ _ ap.TOz.symm (s2.extBut _ _ ap.i1z.symm z1))
  have nz:e≠z:=λ x=>by
   subst x
   rw[Z4] at ho
   cases ho
   simp at hc
  refine wpAny_setField_rec Z4 (by simp) λ g5 _ s5=>k g5 e (λ b o b1 b2 b3 b4 x=>s5.extBut _ _ b1 (s4 _ _ b4 (s3.extBut _ _ b2 (s2.extBut _ _ b3 (s1.extBut _ _ b1 x))))) ⟨oe,s5.extBut _ _ nz ho,hc⟩
theorem zt_pyNext {z TI TO j1 j2 t1 t2:Addr}{k1 k2:Nat}{xs ys:Array Value}{u v c d:Value}{Q:Option Value->Shared->Prop} (ap:ZipApart z TI TO j1 j2 t1 t2) (hz:IsZip s.heap z TI TO .none) (hI:IsPair s.heap TI (.ref j1) (.ref j2)) (hO:IsPair s.heap TO c d)
  (i1:s.heap.IsTupleIter j1 t1 k1) (i2:s.heap.IsTupleIter j2 t2 k2) (q1:s.heap.IsTuple t1 xs) (q2:s.heap.IsTuple t2 ys) (hu:xs[k1]? = some u) (hv:ys[k2]? = some v)
  (k:∀ g,IsZip g z TI TO (rawInt s.heap.objs.size)->IsPair g TO u v->g.IsTupleIter j1 t1 (k1+1)->g.IsTupleIter j2 t2 (k2+1)->IsPair g s.heap.objs.size u v->g.objs.size=s.heap.objs.size+1 ->
   (∀ b o,b≠z->b≠TO->b≠j1->b≠j2->s.heap.get? b=some o->g.get? b=some o)->Q (some (.ref s.heap.objs.size)) {s with heap:=g}):wpAny (model prog w) A (pyNext (.ref z)) Q E s:=by
 have ty:s.TypeIs (.ref z) "zip":=⟨_,hz,rfl⟩
 unfold pyNext
 exact wpAny_bind (wpAny_attempt (wpAny_callSpecial?_slot (name:=Str.ofString "__next__") ty F.slot_zip_next (wpAny_call_entry F.slot_zip_next ty F.entry_zip_next (zt_next ap hz hI hO i1 i2 q1 q2 hu hv λ g a1 a2 a3 a4 a5 a6 a7=>wpAny_pure (k g a1 a2 a3 a4 a5 a6 a7)) (F.args_zip_next_1 _))))
theorem zt_pyEnd {z TI TO j1 j2 t1 t2:Addr}{k1 k2:Nat}{xs ys:Array Value}{c d:Value}{Q:Option Value->Shared->Prop} (hh:A.handled=none) (ap:ZipApart z TI TO j1 j2 t1 t2) (hz:IsZip s.heap z TI TO .none) (hI:IsPair s.heap TI (.ref j1) (.ref j2)) (hO:IsPair s.heap TO c d)
  (i1:s.heap.IsTupleIter j1 t1 k1) (i2:s.heap.IsTupleIter j2 t2 k2) (q1:s.heap.IsTuple t1 xs) (q2:s.heap.IsTuple t2 ys) (he:xs[k1]? = none∨ys[k2]? = none)
  (k:∀ g,(∀ b o,b≠z->b≠TO->b≠j1->b≠j2->s.heap.get? b=some o->g.get? b=some o)->Q none {s with heap:=g}):wpAny (model prog w) A (pyNext (.ref z)) Q E s:=by
 have ty:s.TypeIs (.ref z) "zip":=⟨_,hz,rfl⟩
 unfold pyNext
 refine (wpAny_bind (wpAny_attempt (wpAny_callSpecial?_slot (name:=Str.ofString "__next__") ty F.slot_zip_next (wpAny_call_entry F.slot_zip_next ty F.entry_zip_next (zt_end hh ap hz hI hO i1 i2 q1 q2 he λ g e hk hs=>?_) (F.args_zip_next_1 _)))))
 obtain⟨o,ho,hc⟩:=hs
 refine (wpAny_bind (wpAny_isInstance (T:="StopIteration") (b:=true) ⟨o,ho,hc⟩ isSubtype_stop ?_))
 exact wpAny_pure (k _ hk)
noncomputable abbrev zt1 (h:Heap) (a:Addr):Heap:=h.push {cls:=.type "tuple_iterator",data:=.fields #[.ref a,.int 0 0]}
noncomputable abbrev zt2 (h:Heap) (a b:Addr):Heap:=(zt1 h a).push {cls:=.type "tuple_iterator",data:=.fields #[.ref b,.int 0 0]}
noncomputable abbrev zt3 (h:Heap) (a b:Addr):Heap:=(zt2 h a b).push {cls:=.type "tuple",data:=.seq #[.ref h.objs.size,.ref (zt1 h a).objs.size]}
noncomputable abbrev zt4 (h:Heap) (a b:Addr):Heap:=(zt3 h a b).push {cls:=.type "tuple",data:=.seq #[.none,.none]}
noncomputable abbrev zt5 (h:Heap) (a b:Addr):Heap:=(zt4 h a b).push {cls:=.type "zip",data:=.fields #[.none,.bool false,.bool false,.ref (zt2 h a b).objs.size,.ref (zt3 h a b).objs.size]}
theorem zt_new (a b:Addr) (xs ys:Array Value) :
  Meets (Builtin.«zip.__new__» ⟨[.type "zip",.ref a,.ref b],[]⟩) (λ _ R s=>s.heap.IsTuple a xs/\s.heap.IsTuple b ys/\R (.ok (.ret (.ref (zt4 s.heap a b).objs.size))) {s with heap:=zt5 s.heap a b}) :=
 .of_wp λ prog w A R s h=>by
  obtain⟨hp,g,dr,tk,os⟩:=s
  obtain⟨h1,h2,h⟩:=h
  have sub:=sub_zip
  have L1:Heap.IsTuple (Shared.heap ⟨hp,g,dr,tk,os⟩) a xs:=h1
  have L2:Heap.IsTuple (Shared.heap ⟨hp.push {cls:=.type "tuple_iterator",data:=.fields #[.ref a,.int 0 0]},g,dr,tk,os⟩) b ys:=Heap.IsTuple.push h2 _
  wp_walk using wpAny_pyIter_tuple L1,wpAny_pyIter_tuple L2
  exact⟨_,rfl,h⟩
theorem zt_call {a b:Addr}{xs ys:Array Value}{Q:Value->Shared->Prop} (h1:s.heap.IsTuple a xs) (h2:s.heap.IsTuple b ys)
  (k:∀ g,IsZip g (s.heap.objs.size+4) (s.heap.objs.size+2) (s.heap.objs.size+3) .none->IsPair g (s.heap.objs.size+2) (.ref s.heap.objs.size) (.ref (s.heap.objs.size+1))->IsPair g (s.heap.objs.size+3) .none .none ->
   g.IsTupleIter s.heap.objs.size a 0->g.IsTupleIter (s.heap.objs.size+1) b 0->(∀ c o,s.heap.get? c=some o->g.get? c=some o)->Q (.ref (s.heap.objs.size+4)) {s with heap:=g}) :
  wpAny (model prog w) A (call (.type "zip") [.ref a,.ref b]) Q E s:=by
 refine callType_new F.called_zip (by decide) (F.typeCall_zip_2 _ _) (F.newCall_zip_2 _ _) (λ o=>F.args_object_init_3 o _ _) F.entry_zip_new (zt_new a b xs ys) ⟨h1,h2,?_⟩
 have z1:(zt1 s.heap a).objs.size=s.heap.objs.size+1:=Heap.size_push ..
 have z2:(zt2 s.heap a b).objs.size=s.heap.objs.size+2:=by rw[Heap.size_push,z1]
 have z3:(zt3 s.heap a b).objs.size=s.heap.objs.size+3:=by rw[Heap.size_push,z2]
 have z4:(zt4 s.heap a b).objs.size=s.heap.objs.size+4:=by rw[Heap.size_push,z3]
 have g5:(zt5 s.heap a b).get? (zt4 s.heap a b).objs.size=some _:=Heap.get?_push_size _ rfl
 have g4:(zt5 s.heap a b).get? (zt3 s.heap a b).objs.size=some _:=Heap.get?_push_of_some _ (Heap.get?_push_size _ rfl)
 have g3:(zt5 s.heap a b).get? (zt2 s.heap a b).objs.size=some _:=Heap.get?_push_of_some _ (Heap.get?_push_of_some _ (Heap.get?_push_size _ rfl))
 have g2:(zt5 s.heap a b).get? (zt1 s.heap a).objs.size=some _:=Heap.get?_push_of_some _ (Heap.get?_push_of_some _ (Heap.get?_push_of_some _ (Heap.get?_push_size _ rfl)))
 have g1:(zt5 s.heap a b).get? s.heap.objs.size=some _:=Heap.get?_push_of_some _ (Heap.get?_push_of_some _ (Heap.get?_push_of_some _ (Heap.get?_push_of_some _ (Heap.get?_push_size _ rfl))))
 show _/\_
 rw[z2,z3,z4] at g5
 rw[z1,z2] at g3
 rw[z3] at g4
 rw[z1] at g2
 rw[z4]
 exact⟨⟨_,g5,rfl⟩,k _ g5 g3 g4 ⟨_,g1,rfl,rfl⟩ ⟨_,g2,rfl,rfl⟩ λ c o x=>Heap.get?_push_of_some _ (Heap.get?_push_of_some _ (Heap.get?_push_of_some _ (Heap.get?_push_of_some _ (Heap.get?_push_of_some _ x))))⟩
end
noncomputable def Itzt (K:PySem.W.Frag) (t1 t2:Addr):It :=
 ⟨λ i H=>∃ xs ys x y,SqT K H t1 xs/\SqT K H t2 ys/\xs[i]? = some x/\ys[i]? = some y,
  λ i H v H'=>∃ T x y,H T=none/\H'=upd H T (.tup [x,y])/\v=.ref T/\(∀ xs,SqT K H t1 xs->xs[i]? = some x)/\∀ ys,SqT K H t2 ys->ys[i]? = some y,
  λ i H=>∃ xs ys,SqT K H t1 xs/\SqT K H t2 ys/\(xs.length<=i∨ys.length<=i)⟩
noncomputable def ZStT (z TI TO j1 j2 t1 t2:Addr) (i:Nat) (h:Heap):Prop :=
 IsZip h z TI TO Value.none/\IsPair h TI (.ref j1) (.ref j2)/\(∃ a b,IsPair h TO a b)/\h.IsTupleIter j1 t1 i/\h.IsTupleIter j2 t2 i
theorem isTuple_at {h:Heap}{l:Addr}{items:Array Value} (x:h.IsTuple l items):∃ o,h.get? l=some o/\o.cls=.type "tuple":=by
 obtain⟨o,e,c,_⟩:=x
 exact⟨o,e,c⟩
theorem turn_zipT {P:Program}{w:World}{K:PySem.W.Frag}{es:List Expr}{k0:Nat}{p0:Pos}{z TI TO i1 i2 l1 l2:Addr} (ap:ZipApart z TI TO i1 i2 l1 l2) :
  Turn P w K (.Tuple es k0 p0) (Itzt K l1 l2) [z,TI,TO,i1,i2] z (ZStT z TI TO i1 i2 l1 l2) where
 mem:=by simp
 obj:=λ i h ⟨a,b,⟨c1,c2,c⟩,d,e⟩ x hx=>by
  simp only[List.mem_cons,List.not_mem_nil,or_false] at hx
  rcases hx with rfl | rfl | rfl | rfl | rfl
  ·exact⟨_,a,λ v q=>by cases q⟩
  ·exact⟨_,b,λ v q=>by cases q⟩
  ·exact⟨_,c,λ v q=>by cases q⟩
  ·obtain⟨o,e1,_,e2⟩:=d
   exact⟨o,e1,λ v q=>by rw[e2] at q;cases q⟩
  ·obtain⟨o,e1,_,e2⟩:=e
   exact⟨o,e1,λ v q=>by rw[e2] at q;cases q⟩
 keep:=λ i h h' ⟨a,b,⟨c1,c2,c⟩,d,e⟩ kk =>
  ⟨kk _ (by simp) _ a,kk _ (by simp) _ b,⟨c1,c2,kk _ (by simp) _ c⟩,d.at λ o q=>kk _ (by simp) o q,e.at λ o q=>kk _ (by simp) o q⟩
 item:=by
  intro X hP hw hK hc i pins s σ H E I hf st hg
  subst hP hw hK
  obtain⟨a,b,⟨c1,c2,c⟩,d,e⟩:=st
  obtain⟨xs,ys,x,y,q1,q2,x1,y1⟩:=hg
  obtain⟨its1,rv1,pl1,hz1⟩:=I.tuple q1
  obtain⟨its2,rv2,pl2,hz2⟩:=I.tuple q2
  obtain⟨u1,hu1,ru1⟩:=rv1.get x1
  obtain⟨u2,hu2,ru2⟩:=rv2.get y1
  refine zt_pyNext ap a b c d e (show s.heap.IsTuple l1 its1.toArray from pl1) (show s.heap.IsTuple l2 its2.toArray from pl2) (u:=u1) (v:=u2) (by simpa using hu1) (by simpa using hu2) λ h' za zb zc zd ze zs zk=>?_
  refine⟨_,rfl,wpAny_letOwnedTupleGo_zip (s:={s with heap:=h'}) za λ h2 za2 sb=>?_⟩
  have kk:∀ b o,b ∉ [z,TI,TO,i1,i2]->s.heap.get? b=some o->h2.get? b=some o:=λ b o hb q=>by
   simp only[List.mem_cons,List.not_mem_nil,or_false,not_or] at hb
   exact (sb.2 b hb.1).trans (zk b o hb.1 hb.2.2.1 hb.2.2.2.1 hb.2.2.2.2 q)
  have szn:s.heap.objs.size≠z:=λ q=>by
   obtain⟨f0,_⟩:=hf z (by simp)
   exact absurd (Heap.lt_size a) (by rw[<-q];exact Nat.lt_irrefl _)
  have hT:h2.get? s.heap.objs.size=some {cls:=.type "tuple",data:=.seq #[u1,u2]}:=(sb.2 _ szn).trans ze
  have fr:H s.heap.objs.size=none:=I.hok.fresh (Nat.le_refl _)
  have I2:Inv X pins σ (upd H s.heap.objs.size (.tup [x,y])) {s with heap:=h2}:=I.turnLay (t':=s.toks) (fp:=[z,TI,TO,i1,i2]) kk hf (Nat.le_refl _)
   ⟨by show 2<=sizeLine;decide,[u1,u2],.cons ru1 (.cons ru2 .nil),⟨_,hT,rfl,_,rfl⟩⟩
  have kTI:h2.get? TI=some _:=(sb.2 TI ap.TIz).trans (zk TI _ ap.TIz ap.TITO ap.TIi1 ap.TIi2 b)
  refine⟨.ref s.heap.objs.size,_,I2,rfl,⟨_,x,y,fr,rfl,rfl,λ zs hz=>by rw[I.tuple_inj hz q1];exact x1,λ zs hz=>by rw[I.tuple_inj hz q2];exact y1⟩,
   ⟨za2,kTI,⟨_,_,(sb.2 TO ap.TOz).trans zb⟩,zc.at λ o q=>(sb.2 _ ap.i1z).trans q,zd.at λ o q=>(sb.2 _ ap.i2z).trans q⟩,λ b hb=>?_⟩
  have h0:=(hf b hb).1
  have hlt:b≠s.heap.objs.size:=λ q=>by
   subst q
   simp only[List.mem_cons,List.not_mem_nil,or_false] at hb
   rcases hb with q | q | q | q | q
   ·exact szn q
   ·exact absurd (Heap.lt_size b) (by rw[<-q];exact Nat.lt_irrefl _)
   ·exact absurd (Heap.lt_size c) (by rw[<-q];exact Nat.lt_irrefl _)
   ·obtain⟨o,e1,_⟩:=d
    exact absurd (Heap.lt_size e1) (by rw[<-q];exact Nat.lt_irrefl _)
   ·obtain⟨o,e1,_⟩:=e
    exact absurd (Heap.lt_size e1) (by rw[<-q];exact Nat.lt_irrefl _)
  rw[upd_ne hlt]
  exact h0
 done:=by
  intro X hP hw hK hc i pins s σ H E I hf st hg
  subst hP hw hK
  obtain⟨a,b,⟨c1,c2,c⟩,d,e⟩:=st
  obtain⟨xs,ys,q1,q2,hl⟩:=hg
  obtain⟨its1,rv1,pl1,hz1⟩:=I.tuple q1
  obtain⟨its2,rv2,pl2,hz2⟩:=I.tuple q2
  have g1:=rv1.length
  have g2:=rv2.length
  refine zt_pyEnd (I.ok.hd hc) ap a b c d e (show s.heap.IsTuple l1 its1.toArray from pl1) (show s.heap.IsTuple l2 its2.toArray from pl2) ?_ λ h' zk=>⟨rfl,I.turnedL (t':=s.toks) (fp:=[z,TI,TO,i1,i2]) (λ b o hb q=>?_) hf⟩
  ·rcases hl with q | q
   ·left;simp;omega
   ·right;simp;omega
  ·simp only[List.mem_cons,List.not_mem_nil,or_false,not_or] at hb
   exact zk b o hb.1 hb.2.2.1 hb.2.2.2.1 hb.2.2.2.2 q
 self:=λ _ _ _ _ _ st h=>wpAny_pyIter_zip st.1 h
noncomputable def iZipT (K:PySem.W.Frag) (ta:TA):TI:=λ σ H R=>ta σ H λ vs H1=>∃ a b,vs = [.ref a,.ref b]/\(∃ xs,SqT K H1 a xs)/\(∃ ys,SqT K H1 b ys)/\R (Itzt K a b) H1
theorem pi_zipT {X:Cx}{es:List Expr}{k0:Nat}{p0:Pos}{a b:Expr}{ta:TA}{p pos:Pos} (hg:Gl X "zip") (hm:X.mg "zip" = none) (ha:PA X [a,b] ta) (hs:starEach [a,b] X.env = [(false,eval a X.env),(false,eval b X.env)]:=by rfl) (hs2:starEach [b] X.env = [(false,eval b X.env)]:=by rfl) :
  PI X (.Tuple es k0 p0) (.Call (.Name "zip" p) [a,b] [] pos) (iZipT X.K ta):=by
 intro pins s σ H R I h
 refine Call_ (ld_blt I hg hm boot_zip (PyProof.Rows.callWith_type1 (thn (ha pos pins s σ H _ I h) λ us s1 ⟨vs,H1,I1,r1,q1⟩=>?_) (by rw[hs,hs2]) (by rw[hs2];rfl)))
 obtain⟨l1,l2,e,⟨xs,q1⟩,⟨ys,q2⟩,q⟩:=q1
 subst e
 cases r1 with
 | cons r rr =>
  cases rr with
  | cons r' rr =>
   cases rr
   cases r
   cases r'
   obtain⟨its1,rv1,pl1,hz1⟩:=I1.tuple q1
   obtain⟨its2,rv2,pl2,hz2⟩:=I1.tuple q2
   have T1:s1.heap.IsTuple l1 its1.toArray:=pl1
   have T2:s1.heap.IsTuple l2 its2.toArray:=pl2
   have lt1:l1<s1.heap.objs.size:=by obtain⟨o,e,_⟩:=isTuple_at T1;exact Heap.lt_size e
   have lt2:l2<s1.heap.objs.size:=by obtain⟨o,e,_⟩:=isTuple_at T2;exact Heap.lt_size e
   refine zt_call T1 T2 λ h' za zb zc zd ze zk=>?_
   refine wpAny_pyIter_zip (s:={s1 with heap:=h'}) za ?_
   have I2:Inv X pins σ H1 {s1 with heap:=h'}:=I1.kept (t':=s1.toks) λ b o e=>zk b o e
   refine⟨_,[_,_,_,_,_],_,_,H1,rfl,I2,turn_zipT (z:=s1.heap.objs.size+4) (TI:=s1.heap.objs.size+2) (TO:=s1.heap.objs.size+3) (i1:=s1.heap.objs.size) (i2:=s1.heap.objs.size+1) (l1:=l1) (l2:=l2) ?_,⟨za,zb,⟨_,_,zc⟩,zd,ze⟩,λ b hb=>?_,q⟩
   ·exact zapart lt1 lt2
   ·simp only[List.mem_cons,List.not_mem_nil,or_false] at hb
    have ge:s1.heap.objs.size<=b:=by rcases hb with z | z | z | z | z<;>(subst z;first | exact Nat.le_add_right _ _ | exact Nat.le_refl _)
    exact I1.fpOk ge (I1.hok.fresh ge)
theorem for_zipT {K:PySem.W.Frag}{l1 l2:Addr}{xs ys:List V}{g:TG}{tb:TS}{D:Ends}{σ:St}{H:Hp}{n:Nat} (Pv:Nat->St->Hp->Prop) (h0:Pv 0 σ H) (n1:n<=xs.length) (n2:n<=ys.length) (ne:xs.length=n∨ys.length=n)
  (hl:∀ i σ H,i<=n->Pv i σ H->SqT K H l1 xs/\SqT K H l2 ys)
  (hs:∀ i x y T σ H,i<n->xs[i]? = some x->ys[i]? = some y->H T=none->Pv i σ H->g (.ref T) σ (upd H T (.tup [x,y])) λ σ2 H2=>tb {D with nx:=Pv (i+1),ct:=Pv (i+1),bk:=D.nx} σ2 H2) (hd:∀ σ H,Pv n σ H->D.nx σ H) :
  ∃ W:Nat->Nat->St->Hp->Prop,(∃ m,W 0 m σ H)/\∀ i m σ H,W i m σ H ->
   ((Itzt K l1 l2).stop i H/\D.nx σ H)∨((Itzt K l1 l2).go i H/\∃ N:St->Hp->Prop,(∀ σ' H',N σ' H'->∃ m',m'<m/\W (i+1) m' σ' H')/\∀ x H',(Itzt K l1 l2).yld i H x H'->g x σ H' λ σ2 H2=>tb {D with nx:=N,ct:=N,bk:=D.nx} σ2 H2):=by
 refine⟨λ i m σ H=>m=n-i/\i<=n/\Pv i σ H,⟨n,by simp,Nat.zero_le _,h0⟩,?_⟩
 rintro i m σ H ⟨rfl,hi,p⟩
 obtain⟨q1,q2⟩:=hl i σ H hi p
 by_cases hlt:i<n
 ·have ex:xs[i]? = some (xs[i]'(by omega)):=List.getElem?_eq_getElem (by omega)
  have ey:ys[i]? = some (ys[i]'(by omega)):=List.getElem?_eq_getElem (by omega)
  refine .inr ⟨⟨xs,ys,_,_,q1,q2,ex,ey⟩,Pv (i+1),λ σ' H' z=>⟨n-(i+1),by omega,rfl,hlt,z⟩,?_⟩
  rintro v H' ⟨T,x,y,fr,rfl,rfl,hx,hy⟩
  exact hs i x y T σ H hlt (hx xs q1) (hy ys q2) fr p
 ·have ei:i=n:=by omega
  subst ei
  refine .inl ⟨⟨xs,ys,q1,q2,?_⟩,hd σ H p⟩
  rcases ne with z | z
  ·exact .inl (by omega)
  ·exact .inr (by omega)
end L2
set_option maxHeartbeats 4000000
namespace L2
open PySem PySem.Spec PyProof.Rows
set_option maxRecDepth 8000 in
theorem ext_tup (l:Addr) (its:Array Value) (n:Nat) (b:Addr) (its2:Array Value) (n2:Nat) (od:Option Addr) (os2:Array (Option Value)) (h0:¬(!its.isEmpty && Builtin.List.listTooLong (its.size+its2.size))=true) (h1:its.size<=sizeLine) (h2:its.size+its2.size<=sizeLine+1) :
  Meets (Builtin.«list.extend» ⟨[.ref l,.ref b],[]⟩) (λ _ R s=>s.heap.get? l=some {cls:=.type "list",dict:=none,data:=.seq its n,slots:=#[]}/\s.heap.get? b=some {cls:=.type "tuple",dict:=od,data:=.seq its2 n2,slots:=os2}/\R (.ok (.ret Value.none)) {s with heap:=s.heap.update l (Obj.mapSeq λ x=>x++its2),toks:=s.toks}) :=
 .of_wp λ prog w A R s h=>by
  obtain⟨hp,g,d,tk,os⟩:=s
  obtain⟨hl,hb,h⟩:=h
  have f1:=AutoSeq1.idx_int
  have f2:=AutoSeq1.sub_tuple_tuple
  have f3:=AutoSeq1.sub_list_list
  have f4:=AutoSeq1.sub_tuple_list
  have f5:=AutoSeq1.sub_list_tuple
  have hz:(its++its2).size<=sizeLine+1:=by rw[Array.size_append];exact h2
  wp_walk using (wpAny_updateSeq hl rfl (hz:=h1) (_hz':=hz)),wpAny_loadPart' hl,wpAny_loadPart' hb
  exact⟨_,rfl,h⟩
section
variable {X:Cx}
noncomputable def rExtT:V->List V->Hp->VK->Prop:=λ x vs H Q=>∃ l b xs zs,x=.ref l/\vs = [.ref b]/\H l=some (.lst xs)/\H b=some (.tup zs)/\xs.length+zs.length<=sizeLine/\Q .non (upd H l (.lst (xs++zs)))
theorem mt_extendT:MtM X "list.extend" rExtT:=by
 intro pins s σ H x vs v us Q I rx rv h
 obtain⟨l,b,xs,zs,rfl,rfl,hH,hB,hz,q⟩:=h
 cases rx
 obtain⟨u,rfl,ru⟩:=rv.one
 cases ru
 obtain⟨z,its,n,r,hl,e⟩:=I.lstM hH
 obtain⟨z2,its2,r2,g2⟩:=(show ObjOk X.prog X.w H s.heap b (.tup zs) from I.hok b _ hB)
 have hl2:=r2.length
 obtain⟨⟨oc,od,oda,osl⟩,e2,ecl,n2,eda⟩:=(show s.heap.IsTuple b its2.toArray from g2)
 simp only at ecl eda
 subst ecl eda
 have hsz:its.toArray.size+its2.toArray.size<=sizeLine:=by rw[List.size_toArray,List.size_toArray];omega
 have hlong:¬ (!its.toArray.isEmpty && Builtin.List.listTooLong (its.toArray.size+its2.toArray.size))=true:=by
  rw[notLongL hsz,Bool.and_false]
  exact Bool.false_ne_true
 refine call_meets F.slot_list_extend ⟨_,e,rfl⟩ F.entry_list_extend (F.args_list_extend_2 _ _)
  (ext_tup l its.toArray n b its2.toArray n2 od osl hlong (by rw[List.size_toArray];omega) (by omega)) ⟨e,e2,?_⟩
 refine⟨.non,_,I.lset (its':=its++its2) hH e (by simp) (r.append r2) ?_,rfl,q⟩
 rw[List.length_append]
 omega
end
noncomputable def Prs (H:Hp):List (Int×Int)->List V->Prop
 | [],xs=>xs = []
 | z::zs,xs=>∃ a ys,xs=.ref a::ys/\H a=some (.tup [.int z.1,.int z.2])/\Prs H zs ys
noncomputable def isPr (H:Hp) (z:Int×Int) (w:Value):Bool:=@decide (∃ a,w=Value.ref a/\H a=some (.tup [.int z.1,.int z.2])) (Classical.propDecidable _)
theorem isPr_ref {H:Hp}{z za:Int×Int}{a:Addr} (ha:H a=some (.tup [.int za.1,.int za.2])):isPr H z (.ref a)=decide (za=z):=by
 rw[Bool.eq_iff_iff,isPr,@decide_eq_true_iff _ (Classical.propDecidable _),decide_eq_true_iff]
 constructor
 ·rintro⟨a',e,h⟩
  cases e
  rw[ha] at h
  simp only[Option.some.injEq,HO.tup.injEq,List.cons.injEq,V.int.injEq,and_true] at h
  exact Prod.ext h.1 h.2
 ·rintro rfl
  exact⟨a,rfl,ha⟩
theorem prs_mem {H:Hp}:∀ {zs:List (Int×Int)}{xs:List V}{us:List Value},Prs H zs xs->Vals xs us->∀ w∈us,∃ (a:Addr) (za:Int×Int),w=Value.ref a/\H a=some (.tup [.int za.1,.int za.2])
 | [],xs,us,h,r=>by
  rw[show xs = [] from h] at r
  cases r
  intro w hw
  cases hw
 | z::zs,xs,us,⟨a,ys,e,ha,h⟩,r=>by
  subst e
  cases r with
  | cons r1 rr =>
   cases r1
   intro w hw
   rcases List.mem_cons.mp hw with rfl | hw
   ·exact⟨a,z,rfl,ha⟩
   ·exact prs_mem h rr w hw
theorem prs_any {H:Hp}{z:Int×Int}:∀ {zs:List (Int×Int)}{xs:List V}{us:List Value},Prs H zs xs->Vals xs us->us.any (isPr H z)=zs.any λ w=>decide (w=z)
 | [],xs,us,h,r=>by
  rw[show xs = [] from h] at r
  cases r
  rfl
 | z0::zs,xs,us,⟨a,ys,e,ha,h⟩,r=>by
  subst e
  cases r with
  | cons r1 rr =>
   cases r1
   rw[List.any_cons,List.any_cons,isPr_ref ha,prs_any h rr]
section
variable {X:Cx}
theorem op_notInP (hu:X.A.units+64<cLine):OpR X (compareOp .NotIn) (λ x y H Q=>∃ l xs zs b z,x=.ref b/\y=.ref l/\SqL X.K H l xs/\Prs H zs xs/\H b=some (.tup [.int z.1,.int z.2])/\Q (.bl (!zs.any λ w=>decide (w=z))) H):=by
 intro pins s σ H x y v u Q I rx ry h
 obtain⟨l,xs,zs,b,z,rfl,rfl,hq,hp,hb,q⟩:=h
 cases rx
 cases ry
 obtain⟨its,r,pl,hz⟩:=I.list hq
 refine SeqAt.notIn_listAt (isPr H z) pl.isList (λ w hw=>?_) ⟨.bl _,H,I,rfl,?_⟩
 ·obtain⟨a,za,rfl,ha⟩:=prs_mem hp r w (by simpa using hw)
  have k:=eqQ I.hok 50 X.A.in1 (.tup [.int za.1,.int za.2]) (.tup [.int z.1,.int z.2]) (.ref a) (.ref b) (.ref a) (.ref b) (by simp [depT,depTs]) (by show X.A.units+1+50<cLine;omega) (by simp [cmpTh,cmpThs])
   ⟨a,_,rfl,ha,_,_,rfl,rfl,_,_,rfl,rfl,rfl⟩ ⟨b,_,rfl,hb,_,_,rfl,rfl,_,_,rfl,rfl,rfl⟩ rfl rfl
  have e:eqTh (.tup [.int za.1,.int za.2]) (.tup [.int z.1,.int z.2])=isPr H z (.ref a):=by
   rw[isPr_ref ha,Bool.eq_iff_iff]
   simp [eqTh,eqThs,Prod.ext_iff]
  rw[e] at k
  exact k
 ·rw[show its.toArray.any (isPr H z)=its.any (isPr H z) by simp,prs_any hp r]
  exact q
end
end L2
set_option maxHeartbeats 4000000
namespace L2
open PySem PySem.Spec PyProof.Rows
section
variable {X:Cx}{e st:Expr}{te ts:TE}{pos p2:Pos}
end
theorem comp_lpairR {K:PySem.W.Frag}{a:Addr}{xs:List V}{te:TE}{st:St}{H1:Hp}{Q:VK}{D:Addr} (R:Nat->List V->Hp->Prop) (hD:H1 D=none) (q1:SqL K H1 a xs) (hn:xs.length<=sizeLine) (h0:R 0 [] (upd H1 D (.lst [])))
  (hx:∀ (i:Nat),i<xs.length->∃ b u v,xs[i]? = some (.ref b)/\H1 b=some (.tup [u,v]))
  (hs:∀ (i:Nat) (b:Addr) (u v:V) (ys:List V) (H2:Hp) (k:VK),xs[i]? = some (.ref b)->H1 b=some (.tup [u,v])->Same H1 H2->H2 D=some (.lst ys)->R i ys H2->(∀ y H4,Same H2 H4->R (i+1) (ys++[y]) (upd H4 D (.lst (ys++[y])))->k y H4)->te (some u::some v::st) H2 k)
  (hd:∀ ys H2,Same H1 H2->H2 D=some (.lst ys)->ys.length=xs.length->R xs.length ys H2->Q (.ref D) H2):CompG (Itl K a) (gTup K 2 (gCons (gName 0) (gCons (gName 1) gNil))) tYes te 2 st D H1 Q:=by
 refine⟨λ i m ys H2=>m=xs.length-i/\i<=xs.length/\ys.length=i/\Same H1 H2/\H2 D=some (.lst ys)/\R i ys H2,⟨xs.length,by simp,Nat.zero_le _,rfl,same_upd (Same.refl H1) hD,upd_same,h0⟩,?_⟩
 rintro i m ys H2 ⟨rfl,hi,hl,sm,e,r⟩
 by_cases hlt:i<xs.length
 ·have ex:xs[i]? = some xs[i]:=List.getElem?_eq_getElem hlt
  obtain⟨b,u,v,e1,e2⟩:=hx i hlt
  refine .inr ⟨⟨xs,_,sm.seq q1,ex⟩,?_⟩
  rintro x H3 σ0 ⟨rfl,hx'⟩ l0
  have hx2:=hx' xs (sm.seq q1)
  rw[e1] at hx2
  cases hx2
  obtain⟨a',b',rfl⟩:∃ a b,σ0 = [a,b]:=by
   match σ0,l0 with
   | [a,b],_=>exact⟨a,b,rfl⟩
  refine⟨b,[u,v],rfl,SqT.of (sm _ _ e2),rfl,u,[v],rfl,v,[],rfl,rfl,⟨[some u,some v],rfl,rfl⟩,?_⟩
  exact hs i b u v ys _ _ e1 e2 sm e r λ y H4 s4 r4=>⟨s4 _ _ e,by omega,xs.length-(i+1),by omega,rfl,hlt,by simp [hl],same_upd (sm.trans s4) hD,upd_same,r4⟩
 ·have ei:i=xs.length:=by omega
  subst ei
  exact .inl ⟨⟨xs,sm.seq q1,Nat.le_refl _⟩,hd ys H2 sm e hl r⟩
end L2
set_option maxHeartbeats 4000000
namespace L2
open PySem PySem.Spec PyProof.Rows
section
variable {X:Cx}
theorem op_catE:OpR X (binaryOp .Add) (λ x y H Q=>∃ a b ys,x=.ref a/\y=.ref b/\SqT X.K H a []/\SqT X.K H b ys/\Q (.ref b) H):=by
 intro pins s σ H x y v u Q I rx ry h
 obtain⟨a,b,ys,rfl,rfl,ha,hb,q⟩:=h
 cases rx
 cases ry
 obtain⟨its,r1,p1,_⟩:=I.tuple ha
 obtain⟨its2,r2,p2,_⟩:=I.tuple hb
 cases r1
 obtain⟨⟨cls,dd,data,sl⟩,ho,hc,n,hd⟩:=id (show s.heap.IsTuple a ([]:List Value).toArray from p1)
 obtain⟨⟨cls2,dd2,data2,sl2⟩,ho2,hc2,n2,hd2⟩:=id (show s.heap.IsTuple b its2.toArray from p2)
 simp only at hc hd hc2 hd2
 subst hc hd hc2 hd2
 exact concat_meets ⟨_,ho,rfl⟩ ⟨_,ho2,rfl⟩ noFill_tuple_add seq_tuple_add PySem.F.slot_tuple_add PySem.F.entry_tuple_add (PySem.F.args_tuple_add_2 _ _) (tuple_addW0 a b ([]:List Value).toArray its2.toArray n n2 dd dd2 sl sl2 rfl) ⟨ho,ho2,⟨.ref b,H,I,rfl,q⟩⟩
theorem op_catU:OpR X (binaryOp .Add) (λ x y H Q=>(∃ a b ys,x=.ref a/\y=.ref b/\SqT X.K H a []/\SqT X.K H b ys/\Q (.ref b) H)∨rCatT X.K x y H Q):=by
 intro pins s σ H x y v u Q I rx ry h
 rcases h with h | h
 ·exact op_catE pins s σ H x y v u Q I rx ry h
 ·exact op_catT pins s σ H x y v u Q I rx ry h
end
end L2
namespace Gc
theorem gstep {a b:Int} (ha:0<=a) (hb:0<=b) (h:b≠0):Int.gcd b (a%b)=Int.gcd a b:=by
 rw[Int.gcd_comm a b]
 unfold Int.gcd
 have e:(a%b).natAbs=a.natAbs%b.natAbs:=by
  rw[Int.natAbs_emod_of_nonneg ha]
 rw[e,Nat.gcd_comm b.natAbs (a.natAbs%b.natAbs),<-Nat.gcd_rec]
theorem gend {a:Int} (ha:0<=a):(Int.gcd a 0:Int)=a:=by
 rw[Int.gcd_zero_right];omega
theorem gabs (a b:Int):Int.gcd (if a<0 then -a else a) (if b<0 then -b else b)=Int.gcd a b:=by
 unfold Int.gcd
 have h1:(if a<0 then -a else a).natAbs=a.natAbs:=by split<;>omega
 have h2:(if b<0 then -b else b).natAbs=b.natAbs:=by split<;>omega
 rw[h1,h2]
end Gc
namespace Gc
theorem fdiv_mul {g t:Int} (h:g≠0):(g*t).fdiv g=t:=by
 rw[Int.mul_comm];exact Int.mul_fdiv_cancel _ h
noncomputable def frD (t b:Int):Int:=if b<0 then -(Int.gcd t b:Int) else (Int.gcd t b:Int)
noncomputable def frT (t b:Int):Int:=t.fdiv (frD t b)
noncomputable def frB (t b:Int):Int:=b.fdiv (frD t b)
theorem gne {t b:Int} (h:b≠0):Int.gcd t b≠0:=λ e=>h (Int.gcd_eq_zero_iff.mp e).2
theorem frD_ne {t b:Int} (h:b≠0):frD t b≠0:=by
 have:=gne (t:=t) h
 unfold frD;split<;>omega
theorem fr_split {t b:Int} (h:b≠0):t=frD t b*frT t b/\b=frD t b*frB t b:=by
 have hd:(Int.gcd t b:Int) ∣ t:=Int.gcd_dvd_left ..
 have hb:(Int.gcd t b:Int) ∣ b:=Int.gcd_dvd_right ..
 have hd' : frD t b ∣ t := by unfold frD; split; · exact Int.neg_dvd.mpr hd
                              · exact hd
 have hb' : frD t b ∣ b := by unfold frD; split; · exact Int.neg_dvd.mpr hb
                              · exact hb
 obtain⟨x,hx⟩:=hd'
 obtain⟨y,hy⟩:=hb'
 have ne:=frD_ne (t:=t) h
 generalize hD:frD t b=d at *
 have e1 : frT t b = x := by unfold frT; rw [hD]; conv => lhs; rw [hx]
                             exact fdiv_mul ne
 have e2 : frB t b = y := by unfold frB; rw [hD]; conv => lhs; rw [hy]
                             exact fdiv_mul ne
 rw[e1,e2];exact⟨hx,hy⟩
theorem frB_pos {t b:Int} (h:b≠0):0<frB t b:=by
 obtain⟨_,e⟩:=fr_split (t:=t) h
 have g:=gne (t:=t) h
 rcases Int.lt_trichotomy (frB t b) 0 with c | c | c
 ·exfalso
  by_cases hb:b<0
  ·have hd:frD t b<0:=by unfold frD;rw[if_pos hb];omega
   have:=Int.mul_pos_of_neg_of_neg hd c
   omega
  ·have hd:0<frD t b:=by unfold frD;rw[if_neg hb];omega
   have:=Int.mul_neg_of_pos_of_neg hd c
   omega
 ·rw[c,Int.mul_zero] at e;exact absurd e h
 ·exact c
theorem fr_gcd {t b:Int} (h:b≠0):Int.gcd (frT t b) (frB t b)=1:=by
 obtain⟨e1,e2⟩:=fr_split (t:=t) h
 have g:=gne (t:=t) h
 have k:Int.gcd t b=(frD t b).natAbs*Int.gcd (frT t b) (frB t b):=by
  rw[<-Int.gcd_mul_left,<-e1,<-e2]
 have hn:(frD t b).natAbs=Int.gcd t b:=by unfold frD;split<;>omega
 rw[hn] at k
 have:Int.gcd t b*1=Int.gcd t b*Int.gcd (frT t b) (frB t b):=by rw[Nat.mul_one];exact k
 exact (Nat.eq_of_mul_eq_mul_left (Nat.pos_of_ne_zero g) this).symm
theorem fr_cross {t b:Int} (h:b≠0):frT t b*b=t*frB t b:=by
 obtain⟨e1,e2⟩:=fr_split (t:=t) h
 generalize frT t b=x at *
 generalize frB t b=y at *
 generalize frD t b=d at *
 subst e1 e2
 rw[Int.mul_left_comm,Int.mul_assoc]
theorem dvd_cop {k m n:Int} (h:k ∣ m*n) (c:Int.gcd k m=1):k ∣ n:=by
 have h':k.natAbs ∣ m.natAbs*n.natAbs:=by rw[<-Int.natAbs_mul];exact Int.natAbs_dvd_natAbs.mpr h
 exact Int.natAbs_dvd_natAbs.mp (Nat.Coprime.dvd_of_dvd_mul_left c h')
theorem fr_same {a b c d:Int} (hb:0<b) (hd:0<d) (g1:Int.gcd a b=1) (g2:Int.gcd c d=1) (e:a*d=c*b):a=c/\b=d:=by
 have h1:b ∣ d:=by
  have:b ∣ a*d:=⟨c,by rw[e,Int.mul_comm]⟩
  have k:Int.gcd b a=1:=by rw[Int.gcd_comm];exact g1
  exact dvd_cop this k
 have h2:d ∣ b:=by
  have:d ∣ c*b:=⟨a,by rw[<-e,Int.mul_comm]⟩
  have k:Int.gcd d c=1:=by rw[Int.gcd_comm];exact g2
  exact dvd_cop this k
 have hbd:b=d:=Int.dvd_antisymm (by omega) (by omega) h1 h2
 subst hbd
 exact⟨Int.eq_of_mul_eq_mul_right (by omega) e,rfl⟩
end Gc
namespace Gc
theorem mul_ne {a b:Int} (ha:0<a) (hb:0<b):a*b≠0:=Int.ne_of_gt (Int.mul_pos ha hb)
theorem cancel {k x y:Int} (h:k≠0) (e:k*x=k*y):x=y:=Int.eq_of_mul_eq_mul_left h e
theorem fr_is {t b c d:Int} (hb:b≠0) (hd:0<d) (g:Int.gcd c d=1) (e:t*d=c*b):frT t b=c/\frB t b=d:=by
 have h:=fr_cross (t:=t) hb
 refine fr_same (frB_pos hb) hd (fr_gcd hb) g ?_
 refine cancel hb ?_
 generalize frT t b=x at *
 generalize frB t b=y at *
 grind
theorem back {a b c d:Int} (hb:0<b) (hd:0<d) (g:Int.gcd c d=1) :
  frT (frT (a*d+c*b) (b*d)*b-a*frB (a*d+c*b) (b*d)) (frB (a*d+c*b) (b*d)*b)=c /\
  frB (frT (a*d+c*b) (b*d)*b-a*frB (a*d+c*b) (b*d)) (frB (a*d+c*b) (b*d)*b)=d:=by
 have hn:=mul_ne hb hd
 have h1:=fr_cross (t:=a*d+c*b) hn
 have h2:=frB_pos (t:=a*d+c*b) hn
 generalize frT (a*d+c*b) (b*d)=p at *
 generalize frB (a*d+c*b) (b*d)=q at *
 refine fr_is (mul_ne h2 hb) hd g ?_
 grind
noncomputable def Sz (n:Nat) (i:Int):Prop:=i.natAbs<2^n
theorem Sz.mono {m n:Nat}{i:Int} (h:Sz m i) (hn:m<=n):Sz n i:=Nat.lt_of_lt_of_le h (Nat.pow_le_pow_right (by decide) hn)
theorem Sz.mul {m n:Nat}{i j:Int} (h1:Sz m i) (h2:Sz n j):Sz (m+n) (i*j):=by
 unfold Sz at *
 rw[Int.natAbs_mul,Nat.pow_add]
 exact Nat.mul_lt_mul'' h1 h2
theorem Sz.add {n:Nat}{i j:Int} (h1:Sz n i) (h2:Sz n j):Sz (n+1) (i+j):=by
 unfold Sz at *
 rw[Nat.pow_succ];omega
theorem Sz.sub {n:Nat}{i j:Int} (h1:Sz n i) (h2:Sz n j):Sz (n+1) (i-j):=by
 unfold Sz at *
 rw[Nat.pow_succ];omega
theorem Sz.fr {n m:Nat}{a b:Int} (h:b≠0) (sa:Sz n a) (sb:Sz m b):Sz n (frT a b)/\Sz m (frB a b):=by
 obtain⟨e1,e2⟩:=fr_split (t:=a) h
 have nd:=frD_ne (t:=a) h
 have h1:(frT a b).natAbs<=a.natAbs:=by
  have:a.natAbs=(frD a b).natAbs*(frT a b).natAbs:=by rw[<-Int.natAbs_mul,<-e1]
  rw[this];exact Nat.le_mul_of_pos_left _ (by omega)
 have h2:(frB a b).natAbs<=b.natAbs:=by
  have:b.natAbs=(frD a b).natAbs*(frB a b).natAbs:=by rw[<-Int.natAbs_mul,<-e2]
  rw[this];exact Nat.le_mul_of_pos_left _ (by omega)
 exact⟨Nat.lt_of_le_of_lt h1 sa,Nat.lt_of_le_of_lt h2 sb⟩
structure FrOK (a b:Int):Prop where
 pos:0<b
 low:Int.gcd a b=1
 s1:Sz 200 a
 s2:Sz 200 b
theorem FrOK.of {a b:Int} (h:0<b) (sa:Sz 200 a) (sb:Sz 200 b):FrOK (frT a b) (frB a b) :=
 have z:=Sz.fr (by omega) sa sb
 ⟨frB_pos (by omega),fr_gcd (by omega),z.1,z.2⟩
theorem frD_pos {a b:Int} (h:0<b):frD a b=Int.gcd a b:=if_neg (by omega)
end Gc
namespace Ch
noncomputable def binom:Nat->Nat->Nat
 | _,0=>1
 | 0,_+1=>0
 | n+1,k+1=>binom n k+binom n (k+1)
theorem b0 (n:Nat):binom n 0=1:=by cases n<;>rfl
theorem bs (n k:Nat):binom (n+1) (k+1)=binom n k+binom n (k+1):=rfl
theorem blt:∀ {n k:Nat},n<k->binom n k=0
 | 0,k+1,_=>rfl
 | n+1,k+1,h=>by rw[bs,blt (by omega:n<k),blt (by omega:n<k+1)]
theorem bself:∀ n:Nat,binom n n=1
 | 0=>rfl
 | n+1=>by rw[bs,bself n,blt (Nat.lt_succ_self n)]
theorem babs:∀ n k:Nat,binom n (k+1)*(k+1)=binom n k*(n-k)
 | 0,k=>by rw[show binom 0 (k+1)=0 from rfl];simp
 | n+1,0=>by
  have ih:=babs n 0
  rw[bs,b0,b0]
  rw[b0] at ih
  simp only[Nat.zero_add,Nat.mul_one,Nat.one_mul,Nat.sub_zero] at *
  omega
 | n+1,k+1=>by
  have i1:=babs n k
  have i2:=babs n (k+1)
  rw[bs n (k+1),bs n k]
  by_cases h:k<n
  ·have e1:n-k=(n-(k+1))+1:=by omega
   have e2:n+1-(k+1)=n-k:=by omega
   rw[e2]
   rw[e1] at i1 ⊢
   generalize n-(k+1)=d at *
   have:(binom n (k+1)+binom n (k+1+1))*(k+1+1)=binom n (k+1)*(k+1)+binom n (k+1)+binom n (k+1+1)*(k+1+1):=by
    rw[Nat.add_mul,Nat.mul_add (binom n (k+1)) (k+1) 1,Nat.mul_one]
   rw[this,i1,i2,Nat.add_mul,Nat.mul_add (binom n k) d 1,Nat.mul_add (binom n (k+1)) d 1]
   omega
  ·have z1:binom n (k+1)=0:=blt (by omega)
   have z2:binom n (k+1+1)=0:=blt (by omega)
   have e2:n+1-(k+1)=0:=by omega
   rw[z1,z2,e2];simp
theorem bsymm:∀ {n k:Nat},k<=n->binom n (n-k)=binom n k
 | 0,0,_=>rfl
 | n+1,0,_=>by rw[Nat.sub_zero,bself,b0]
 | n+1,k+1,h=>by
  by_cases e:k=n
  ·subst e;rw[Nat.sub_self,b0,bself]
  ·have e1:n+1-(k+1)=(n-(k+1))+1:=by omega
   have e2:n-(k+1)+1=n-k:=by omega
   rw[e1,bs,bs,e2,bsymm (by omega:k+1<=n),bsymm (by omega:k<=n)]
   omega
theorem bturn (n t:Nat):binom n t*(n-t) / (t+1)=binom n (t+1):=by
 rw[<-babs,Nat.mul_div_cancel _ (Nat.succ_pos t)]
noncomputable def cho (n k:Int):Int:=if k<0∨n<k then 0 else (binom n.toNat k.toNat:Int)
theorem cho_out {n k:Int} (h:k<0∨n<k):cho n k=0:=if_pos h
theorem cho_in {n k:Int} (h0:0<=k) (h1:k<=n):cho n k=(binom n.toNat k.toNat:Int):=if_neg (by omega)
theorem cho_min {n k:Int} (h0:0<=k) (h1:k<=n):(binom n.toNat (if n-k<k then n-k else k).toNat:Int)=cho n k:=by
 rw[cho_in h0 h1]
 by_cases c:n-k<k
 ·rw[if_pos c]
  have e:(n-k).toNat=n.toNat-k.toNat:=by omega
  rw[e,bsymm (by omega)]
 ·rw[if_neg c]
theorem cho_turn {n:Int}{t:Nat} (h:(t:Int)<n):(binom n.toNat t:Int)*(n-t) / ((t:Int)+1)=(binom n.toNat (t+1):Int):=by
 rw[<-bturn n.toNat t]
 have e:n-(t:Int)=((n.toNat-t:Nat):Int):=by omega
 rw[e]
 simp
end Ch
namespace Gc
open Ch
theorem rle {a b c:Rat} (h:a<=b) (hc:0<=c):c*a<=c*b:=Rat.mul_le_mul_of_nonneg_left h hc
noncomputable def sm (f:Nat->Rat):Nat->Rat
 | 0=>0
 | m+1=>sm f m+f m
theorem sm_add (f g:Nat->Rat):∀ m,sm (λ k=>f k+g k) m=sm f m+sm g m
 | 0=>by simp only[sm];grind
 | m+1=>by simp only[sm,sm_add f g m];grind
theorem sm_mul (c:Rat) (f:Nat->Rat):∀ m,sm (λ k=>c*f k) m=c*sm f m
 | 0=>by simp only[sm];grind
 | m+1=>by simp only[sm,sm_mul c f m];grind
theorem sm_le {f g:Nat->Rat}:∀ {m:Nat},(∀ k,k<m->f k<=g k)->sm f m<=sm g m
 | 0,_=>Rat.le_refl
 | m+1,h=>by
   have h1:=sm_le (m:=m) λ k hk=>h k (by omega)
   have h2:=h m (by omega)
   simp only[sm];grind
theorem sm_congr {f g:Nat->Rat}:∀ {m:Nat},(∀ k,k<m->f k=g k)->sm f m=sm g m
 | 0,_=>rfl
 | m+1,h=>by
   have h1:=sm_congr (m:=m) λ k hk=>h k (by omega)
   have h2:=h m (by omega)
   simp only[sm,h1,h2]
theorem sm_zero {f:Nat->Rat}:∀ {m:Nat},(∀ k,k<m->f k=0)->sm f m=0
 | 0,_=>rfl
 | m+1,h=>by
   have h1:=sm_zero (m:=m) λ k hk=>h k (by omega)
   have h2:=h m (by omega)
   simp only[sm,h1,h2];grind
theorem sm_front (f:Nat->Rat):∀ m,sm f (m+1)=f 0+sm (λ k=>f (k+1)) m
 | 0=>by simp only[sm];grind
 | m+1=>by rw[sm,sm_front f m];simp only[sm];grind
noncomputable def wt (p:Rat):Nat->Nat->Rat
 | 0,0=>1
 | 0,_+1=>0
 | n+1,0=>(1-p)*wt p n 0
 | n+1,k+1=>(1-p)*wt p n (k+1)+p*wt p n k
theorem wt_zero (p:Rat):∀ n,wt p n 0=(1-p)^n
 | 0=>by rw[wt];grind
 | n+1=>by rw[wt,wt_zero p n];grind
theorem wt_form (p:Rat):∀ n k,wt p n k=(binom n k:Rat)*p^k*(1-p)^(n-k)
 | 0,0=>by simp [wt,binom]
 | 0,k+1=>by simp [wt,binom]
 | n+1,0=>by rw[wt_zero,b0];simp
 | n+1,k+1=>by
   rw[wt,wt_form p n k,wt_form p n (k+1),bs]
   have e:n+1-(k+1)=n-k:=by omega
   rw[e]
   by_cases h:k<n
   ·have e2:n-k=(n-(k+1))+1:=by omega
    rw[e2];push_cast;grind
   ·rw[blt (show n<k+1 by omega)];push_cast;grind
theorem wt_nonneg {p:Rat} (h0:0<=p) (h1:p<=1):∀ n k,0<=wt p n k
 | 0,0=>by rw[wt];decide
 | 0,k+1=>by rw[wt];decide
 | n+1,0=>by
   rw[wt];exact Rat.mul_nonneg (by grind) (wt_nonneg h0 h1 n 0)
 | n+1,k+1=>by
   have a:=Rat.mul_nonneg (show 0<=1-p by grind) (wt_nonneg h0 h1 n (k+1))
   have b:=Rat.mul_nonneg h0 (wt_nonneg h0 h1 n k)
   rw[wt];grind
noncomputable def cu (p:Rat) (n m:Nat):Rat:=sm (wt p n) m
theorem cu_step (p:Rat) (n m:Nat):cu p (n+1) (m+1)=(1-p)*cu p n (m+1)+p*cu p n m:=by
 simp only[cu]
 rw[sm_front,sm_front (wt p n)]
 have:sm (λ k=>wt p (n+1) (k+1)) m=(1-p)*sm (λ k=>wt p n (k+1)) m+p*sm (wt p n) m:=by
  rw[<-sm_mul,<-sm_mul,<-sm_add];exact sm_congr λ k _=>by rw[wt]
 rw[this,wt];grind
theorem cu_zero (p:Rat) (n:Nat):cu p n 0=0:=rfl
theorem cu_all (p:Rat):∀ {n m:Nat},n<m->cu p n m=1
 | 0,m+1,_=>by
   rw[cu,sm_front,sm_zero (λ k _=>by rw[wt]),wt];grind
 | n+1,m+1,h=>by rw[cu_step,cu_all p (show n<m+1 by omega),cu_all p (show n<m by omega)];grind
theorem cu_mono {p:Rat} (h0:0<=p) (h1:p<=1) (n:Nat) {a:Nat}:∀ {b:Nat},a<=b->cu p n a<=cu p n b
 | 0, h => by have : a = 0 := by omega
              subst this; exact Rat.le_refl
 | b+1,h=>by
   by_cases e:a=b+1
   ·subst e;exact Rat.le_refl
   ·have:=cu_mono h0 h1 n (show a<=b by omega)
    have w:=wt_nonneg h0 h1 n b
    simp only[cu,sm] at *;grind
theorem cu_nonneg {p:Rat} (h0:0<=p) (h1:p<=1) (n m:Nat):0<=cu p n m:=by
 have:=cu_mono h0 h1 n (show 0<=m by omega);rw[cu_zero] at this;exact this
theorem cu_le {p:Rat} (h0:0<=p) (h1:p<=1) (n m:Nat):cu p n m<=1:=by
 have:=cu_mono h0 h1 n (show m<=m+n+1 by omega);rw[cu_all p (show n<m+n+1 by omega)] at this;exact this
theorem cu_anti {p q:Rat} (h0:0<=p) (h:p<=q) (h1:q<=1):∀ n m,cu q n m<=cu p n m
 | _,0=>by rw[cu_zero,cu_zero];exact Rat.le_refl
 | 0,m+1=>by rw[cu_all q (by omega),cu_all p (by omega)];exact Rat.le_refl
 | n+1,m+1=>by
   rw[cu_step,cu_step]
   have a:=rle (cu_anti h0 h h1 n (m+1)) (show 0<=1-q by grind)
   have b:=rle (cu_anti h0 h h1 n m) (show 0<=q by grind)
   have c:=rle (cu_mono h0 (by grind) n (show m<=m+1 by omega):cu p n m<=cu p n (m+1)) (show 0<=q-p by grind)
   grind
noncomputable def rn (p:Rat) (n i d:Nat):Rat:=cu p n d-cu p n i
theorem rn_unit {p:Rat} (h0:0<=p) (h1:p<=1) {n i d:Nat} (h:i<=d):0<=rn p n i d/\rn p n i d<=1:=by
 have a:=cu_mono h0 h1 n h
 have b:=cu_le h0 h1 n d
 have c:=cu_nonneg h0 h1 n i
 unfold rn;constructor<;>grind
theorem rn_lip {p q:Rat} (h0:0<=p) (h:p<=q) (h1:q<=1):∀ n {i d:Nat},i<=d ->
  rn q n i d-rn p n i d<=(n:Rat)*(q-p)/\rn p n i d-rn q n i d<=(n:Rat)*(q-p)
 | 0,i,d,hi=>by
   have e:∀ x,rn x 0 i d=rn p 0 i d:=λ x=>by
    unfold rn
    have:∀ m,cu x 0 m=cu p 0 m:=λ m=>by
     cases m with
     | zero=>rfl
     | succ m=>rw[cu_all _ (by omega),cu_all _ (by omega)]
    rw[this,this]
   rw[e q];push_cast;constructor<;>grind
 | n+1,i,d,hi=>by
   have key:∀ x,rn x (n+1) i d=(1-x)*rn x n i d+x*rn x n (i-1) (d-1):=λ x=>by
    unfold rn
    cases i with
    | zero =>
     cases d with
     | zero=>simp only[cu_zero,Nat.zero_sub];grind
     | succ d=>rw[cu_step];simp only[cu_zero,Nat.zero_sub,Nat.add_sub_cancel];grind
    | succ i =>
     cases d with
     | zero=>omega
     | succ d=>rw[cu_step,cu_step];simp only[Nat.add_sub_cancel];grind
   obtain⟨a1,a2⟩:=rn_lip h0 h h1 n hi
   obtain⟨b1,b2⟩:=rn_lip h0 h h1 n (show i-1<=d-1 by omega)
   have u1:=rn_unit h0 (by grind:p<=1) (n:=n) hi
   have u2:=rn_unit h0 (by grind:p<=1) (n:=n) (show i-1<=d-1 by omega)
   rw[key q,key p]
   have x1:=rle a1 (show 0<=1-q by grind)
   have x2:=rle a2 (show 0<=1-q by grind)
   have y1:=rle b1 (show 0<=q by grind)
   have y2:=rle b2 (show 0<=q by grind)
   have z1:=rle (show rn p n (i-1) (d-1)-rn p n i d<=1 by grind) (show 0<=q-p by grind)
   have z2:=rle (show rn p n i d-rn p n (i-1) (d-1)<=1 by grind) (show 0<=q-p by grind)
   push_cast
   constructor<;>grind
end Gc
namespace Gc
open Ch
noncomputable def Cvx (G:Nat->Rat):Prop:=∀ k,G (k+1)-G k<=G (k+2)-G (k+1)
theorem Cvx.steps {G:Nat->Rat} (h:Cvx G) (a:Nat):∀ e,G (a+1)-G a<=G (a+e+1)-G (a+e)
 | 0=>Rat.le_refl
 | e+1=>by
   have:=h.steps a e
   have s:=h (a+e)
   have e1:a+(e+1)=a+e+1:=by omega
   have e2:a+(e+1)+1=a+e+2:=by omega
   rw[e2,e1];grind
theorem Cvx.up {G:Nat->Rat} (h:Cvx G) (a:Nat):∀ e:Nat,(e:Rat)*(G (a+1)-G a)<=G (a+e)-G a
 | 0 => by have : a + 0 = a := rfl
           rw [this]; push_cast; grind
 | e+1=>by
   have i:=h.up a e
   have s:=h.steps a e
   have e1:a+(e+1)=a+e+1:=by omega
   rw[e1];push_cast;grind
theorem Cvx.dn {G:Nat->Rat} (h:Cvx G) (a:Nat):∀ e:Nat,G (a+e)-G a<=(e:Rat)*(G (a+e+1)-G (a+e))
 | 0 => by have : a + 0 = a := rfl
           rw [this]; push_cast; grind
 | e+1=>by
   have i:=h.dn a e
   have s:=h (a+e)
   have m:=rle s (show (0:Rat)<=(e:Rat) by exact_mod_cast Nat.zero_le e)
   have e1:a+(e+1)=a+e+1:=by omega
   have e2:a+(e+1)+1=a+e+2:=by omega
   rw[e2,e1];push_cast;grind
theorem castpos {e:Nat} (h:0<e):(0:Rat)<(e:Rat):=by exact_mod_cast h
theorem pos_of {e x:Rat} (he:0<e) (h:0<e*x):0<x:=by
 by_cases hx:0<x
 ·exact hx
 ·have:=rle (show x<=0 by grind) (show 0<=e by grind);grind
theorem nonneg_of {e x:Rat} (he:0<e) (h:0<=e*x):0<=x:=by
 by_cases hx:0<=x
 ·exact hx
 ·have:=Rat.mul_pos he (show 0 < -x by grind);grind
theorem Cvx.mid {G:Nat->Rat} (h:Cvx G) {a d k:Nat} (ha:G a=0) (hd:G d=0) (h1:a<=k) (h2:k<=d):G k<=0:=by
 by_cases hk:0<G k
 ·exfalso
  obtain⟨e,rfl⟩:=Nat.exists_eq_add_of_le h1
  obtain⟨f,rfl⟩:=Nat.exists_eq_add_of_le h2
  have u:=h.dn a e
  have v:=h.up (a+e) f
  by_cases he:e=0
  ·subst he;have:a+0=a:=rfl
   rw[this] at hk;grind
  ·have p:=pos_of (castpos (show 0<e by omega)) (show 0<(e:Rat)*(G (a+e+1)-G (a+e)) by grind)
   have q:0<=(f:Rat)*(G (a+e+1)-G (a+e)):=Rat.mul_nonneg (by exact_mod_cast Nat.zero_le f) (by grind)
   grind
 ·grind
theorem Cvx.out {G:Nat->Rat} (h:Cvx G) {a d k:Nat} (ha:G a=0) (hd:G d=0) (had:a<d) (h1:k<=a∨d<=k):0<=G k:=by
 obtain⟨f,rfl⟩:=Nat.exists_eq_add_of_le (Nat.le_of_lt had)
 have fp:=castpos (show 0<f by omega)
 cases h1 with
 | inl h1 =>
  obtain⟨e,rfl⟩:=Nat.exists_eq_add_of_le h1
  have u:=h.dn k e
  have v:=h.up (k+e) f
  have x:0<=-(G (k+e+1)-G (k+e)):=nonneg_of fp (by grind)
  have y:=Rat.mul_nonneg (show (0:Rat)<=(e:Rat) by exact_mod_cast Nat.zero_le e) x
  grind
 | inr h1 =>
  obtain⟨e,rfl⟩:=Nat.exists_eq_add_of_le h1
  have u:=h.dn a f
  have v:=h.up (a+f) e
  have x:0<=G (a+f+1)-G (a+f):=nonneg_of fp (by grind)
  have y:=Rat.mul_nonneg (show (0:Rat)<=(e:Rat) by exact_mod_cast Nat.zero_le e) x
  grind
theorem pow_le_one' {u:Rat} (h0:0<=u) (h1:u<=1):∀ e:Nat,u^e<=1
 | 0=>by grind
 | e + 1 => by have i := rle (pow_le_one' h0 h1 e) h0
               rw [Rat.pow_succ]; grind
theorem one_le_pow' {v:Rat} (h1:1<=v):∀ e:Nat,1<=v^e
 | 0=>by grind
 | e + 1 => by have i := rle (one_le_pow' h1 e) (show 0 ≤ v by grind)
               rw [Rat.pow_succ]; grind
theorem pw_cvx {u v l m:Rat} (hu:0<u) (hv:0<v) (hl:0<=l) (hm:0<=m):Cvx λ k=>l*u^k+m*v^k-1:=λ k=>by
 have a:0<=l*(u^k*((u-1)*(u-1))):=Rat.mul_nonneg hl (Rat.mul_nonneg (Rat.le_of_lt (Rat.pow_pos hu)) (by
  by_cases h:0<=u-1
  ·exact Rat.mul_nonneg h h
  ·have:=Rat.mul_nonneg (show 0<=1-u by grind) (show 0<=1-u by grind);grind))
 have b:0<=m*(v^k*((v-1)*(v-1))):=Rat.mul_nonneg hm (Rat.mul_nonneg (Rat.le_of_lt (Rat.pow_pos hv)) (by
  by_cases h:0<=v-1
  ·exact Rat.mul_nonneg h h
  ·have:=Rat.mul_nonneg (show 0<=1-v by grind) (show 0<=1-v by grind);grind))
 have e1:u^(k+1)=u^k*u:=Rat.pow_succ u k
 have e2:u^(k+2)=u^k*u*u:=by rw[Rat.pow_succ,Rat.pow_succ]
 have e3:v^(k+1)=v^k*v:=Rat.pow_succ v k
 have e4:v^(k+2)=v^k*v*v:=by rw[Rat.pow_succ,Rat.pow_succ]
 simp only[e1,e2,e3,e4]
 generalize u^k=x at *
 generalize v^k=y at *
 grind
theorem pw_two {u v:Rat} (hu:0<u) (hu1:u<1) (hv:1<v) {a d:Nat} (h:a<d) :
  ∃ l m:Rat,0<=l/\0<=m/\l*u^a+m*v^a-1=0/\l*u^d+m*v^d-1=0:=by
 obtain⟨f,rfl⟩:=Nat.exists_eq_add_of_lt h
 have ua:0<u^a:=Rat.pow_pos hu
 have va:0<v^a:=Rat.pow_pos (show 0<v by grind)
 have uf:=pow_le_one' (Rat.le_of_lt hu) (Rat.le_of_lt hu1) f
 have vf:=one_le_pow' (Rat.le_of_lt hv) f
 have U:u^(f+1)<1:=by
  have:=rle uf (Rat.le_of_lt hu);rw[Rat.pow_succ];grind
 have V:1<v^(f+1):=by
  have:=rle vf (show 0<=v by grind);rw[Rat.pow_succ];grind
 have eu:u^(a+f+1)=u^a*u^(f+1):=by grind
 have ev:v^(a+f+1)=v^a*v^(f+1):=by grind
 rw[eu,ev]
 generalize u^(f+1)=x at *
 generalize v^(f+1)=y at *
 generalize u^a=s at *
 generalize v^a=t at *
 have D:y-x≠0:=by grind
 have Dp:0<(y-x)⁻¹:=Rat.inv_pos.mpr (by grind)
 have sp:0<s⁻¹:=Rat.inv_pos.mpr ua
 have tp:0<t⁻¹:=Rat.inv_pos.mpr va
 refine⟨(y-1)*((y-x)⁻¹ * s⁻¹),(1-x)*((y-x)⁻¹ * t⁻¹),Rat.mul_nonneg (by grind) (Rat.mul_nonneg (Rat.le_of_lt Dp) (Rat.le_of_lt sp)),
  Rat.mul_nonneg (by grind) (Rat.mul_nonneg (Rat.le_of_lt Dp) (Rat.le_of_lt tp)),?_,?_⟩
 ·have e1:s⁻¹ * s=1:=Rat.inv_mul_cancel _ (by grind)
  have e2:t⁻¹ * t=1:=Rat.inv_mul_cancel _ (by grind)
  have e3:(y-x)⁻¹ * (y-x)=1:=Rat.inv_mul_cancel _ D
  grind
 ·have e1:s⁻¹ * s=1:=Rat.inv_mul_cancel _ (by grind)
  have e2:t⁻¹ * t=1:=Rat.inv_mul_cancel _ (by grind)
  have e3:(y-x)⁻¹ * (y-x)=1:=Rat.inv_mul_cancel _ D
  grind
theorem wt_tilt {p q b u:Rat} (h1:p=u*b*q) (h2:1-p=b*(1-q)):∀ n k,wt p n k=b^n*u^k*wt q n k
 | 0,0=>by simp only[wt];grind
 | 0,k+1=>by simp only[wt];grind
 | n+1,0=>by
   simp only[wt,wt_tilt h1 h2 n 0,h2,Rat.pow_succ];grind
 | n+1,k+1=>by
   have a:=wt_tilt h1 h2 n k
   have c:=wt_tilt h1 h2 n (k+1)
   rw[Rat.pow_succ] at c
   simp only[wt,a,c,h2,Rat.pow_succ]
   generalize wt q n k=x
   generalize wt q n (k+1)=y
   generalize b^n=z
   generalize u^k=t
   rw[h1];grind
noncomputable def ind (i d k:Nat):Rat:=if i<=k/\k<d then 1 else 0
theorem sm_ind (f:Nat->Rat) {i d:Nat} (h:i<=d):∀ m,sm (λ k=>f k*ind i d k) m=sm f (min d m)-sm f (min i m)
 | 0=>by simp [sm];grind
 | m+1=>by
   rw[sm,sm_ind f h m]
   by_cases h1:m<i
   ·rw[ind,if_neg (by omega),Nat.min_eq_right (by omega:m<=d),Nat.min_eq_right (by omega:m<=i),
     Nat.min_eq_right (by omega:m+1<=d),Nat.min_eq_right (by omega:m+1<=i)];grind
   ·by_cases h2:m<d
    ·rw[ind,if_pos (by omega),Nat.min_eq_right (by omega:m<=d),Nat.min_eq_left (by omega:i<=m),
      Nat.min_eq_right (by omega:m+1<=d),Nat.min_eq_left (by omega:i<=m+1),sm];grind
    ·rw[ind,if_neg (by omega),Nat.min_eq_left (by omega:d<=m),Nat.min_eq_left (by omega:i<=m),
      Nat.min_eq_left (by omega:d<=m+1),Nat.min_eq_left (by omega:i<=m+1)];grind
theorem rn_ind (p c:Rat) {n i d:Nat} (h:i<=d) (hd:d<=n+1) :
  sm (λ k=>wt p n k*(ind i d k-c)) (n+1)=rn p n i d-c:=by
 have e:sm (λ k=>wt p n k*(ind i d k-c)) (n+1)
   = sm (λ k=>wt p n k*ind i d k+(-c)*wt p n k) (n+1):=sm_congr λ k _=>by grind
 rw[e,sm_add,sm_mul,sm_ind (wt p n) h,Nat.min_eq_left hd,Nat.min_eq_left (by omega:i<=n+1)]
 have:=cu_all p (show n<n+1 by omega)
 simp only[rn,cu] at *;grind
theorem lt_self_div {a b:Rat} (h:a<b) (hb:0<b):a*b⁻¹ < 1:=by
 have bp:0<b⁻¹:=Rat.inv_pos.mpr hb
 have:=Rat.mul_pos (show 0<b-a by grind) bp
 have e:b*b⁻¹ = 1:=Rat.mul_inv_cancel _ (by grind)
 grind
theorem rn_uni0 {p q r:Rat} (h0:0<p) (h1:p<q) (h2:q<r) (h3:r<1) {n i d:Nat} (hi:i<d) (hd:d<=n+1) :
  rn p n i d<=rn q n i d∨rn r n i d<=rn q n i d:=by
 have qp:0<q:=by grind
 have q1:0<1-q:=by grind
 have i1:q*q⁻¹ = 1:=Rat.mul_inv_cancel _ (by grind)
 have i2:(1-q)*(1-q)⁻¹ = 1:=Rat.mul_inv_cancel _ (by grind)
 have i3:(1-p)*(1-p)⁻¹ = 1:=Rat.mul_inv_cancel _ (by grind)
 have i4:(1-r)*(1-r)⁻¹ = 1:=Rat.mul_inv_cancel _ (by grind)
 have b1:0<(1-p)*(1-q)⁻¹:=Rat.mul_pos (by grind) (Rat.inv_pos.mpr q1)
 have b2:0<(1-r)*(1-q)⁻¹:=Rat.mul_pos (by grind) (Rat.inv_pos.mpr q1)
 have u0:0<(p*q⁻¹)*((1-q)*(1-p)⁻¹):=Rat.mul_pos (Rat.mul_pos h0 (Rat.inv_pos.mpr qp)) (Rat.mul_pos q1 (Rat.inv_pos.mpr (by grind)))
 have u1:(p*q⁻¹)*((1-q)*(1-p)⁻¹)<1:=by
  have x:=lt_self_div h1 qp
  have y:=lt_self_div (show 1-q<1-p by grind) (show 0<1-p by grind)
  have xp:0<p*q⁻¹:=Rat.mul_pos h0 (Rat.inv_pos.mpr qp)
  have:=rle (Rat.le_of_lt y) (Rat.le_of_lt xp)
  grind
 have v1:1<(r*q⁻¹)*((1-q)*(1-r)⁻¹):=by
  have x:=Rat.mul_pos (show 0<r-q by grind) (Rat.inv_pos.mpr qp)
  have y:=Rat.mul_pos (show 0<r-q by grind) (Rat.inv_pos.mpr (show 0<1-r by grind))
  have ex:r*q⁻¹ = 1+(r-q)*q⁻¹:=by grind
  have ey:(1-q)*(1-r)⁻¹ = 1+(r-q)*(1-r)⁻¹:=by grind
  rw[ex,ey]
  generalize (r-q)*q⁻¹ = x' at *
  generalize (r-q)*(1-r)⁻¹ = y' at *
  have z:=Rat.mul_pos x y
  grind
 have tp:=wt_tilt (p:=p) (q:=q) (b:=(1-p)*(1-q)⁻¹) (u:=(p*q⁻¹)*((1-q)*(1-p)⁻¹)) (by grind) (by grind) n
 have tr:=wt_tilt (p:=r) (q:=q) (b:=(1-r)*(1-q)⁻¹) (u:=(r*q⁻¹)*((1-q)*(1-r)⁻¹)) (by grind) (by grind) n
 generalize (1-p)*(1-q)⁻¹ = b at *
 generalize (1-r)*(1-q)⁻¹ = b' at *
 generalize (p*q⁻¹)*((1-q)*(1-p)⁻¹)=u at *
 generalize (r*q⁻¹)*((1-q)*(1-r)⁻¹)=v at *
 by_cases hn:rn p n i d<=rn q n i d∨rn r n i d<=rn q n i d
 ·exact hn
 ·exfalso
  obtain⟨c,c1,c2,c3⟩:∃ c,c<=rn p n i d/\c<=rn r n i d/\rn q n i d<c:=by
   by_cases h:rn p n i d<=rn r n i d
   ·exact⟨rn p n i d,by grind,h,by grind⟩
   ·exact⟨rn r n i d,by grind,by grind,by grind⟩
  have un:=rn_unit (Rat.le_of_lt h0) (show p<=1 by grind) (n:=n) (Nat.le_of_lt hi)
  have unq:=rn_unit (Rat.le_of_lt qp) (show q<=1 by grind) (n:=n) (Nat.le_of_lt hi)
  obtain⟨l,m,hl,hm,za,zd⟩:=pw_two u0 u1 v1 hi
  have cv:=pw_cvx u0 (show 0<v by grind) hl hm
  have key:sm (λ k=>l*(wt q n k*u^k*(ind i d k-c))+m*(wt q n k*v^k*(ind i d k-c))) (n+1)
    <= sm (λ k=>wt q n k*(ind i d k-c)) (n+1):=sm_le λ k _=>by
   have w:=wt_nonneg (Rat.le_of_lt qp) (show q<=1 by grind) n k
   have g:(ind i d k-c)*(l*u^k+m*v^k-1)<=0:=by
    by_cases hk:i<=k/\k<d
    ·have x:=cv.mid za zd hk.1 (Nat.le_of_lt hk.2)
     rw[ind,if_pos hk]
     have:=rle x (show 0<=1-c by grind);grind
    ·have x:=cv.out za zd hi (show k<=i∨d<=k by omega)
     rw[ind,if_neg hk]
     have:=Rat.mul_nonneg (show 0<=c by grind) x;grind
   have:=rle g w
   generalize u^k=s at *
   generalize v^k=t at *
   generalize ind i d k=o at *
   grind
  rw[sm_add,sm_mul,sm_mul,rn_ind q c (Nat.le_of_lt hi) hd] at key
  have sp:b^n*sm (λ k=>wt q n k*u^k*(ind i d k-c)) (n+1)=rn p n i d-c:=by
   rw[<-rn_ind p c (Nat.le_of_lt hi) hd,<-sm_mul];exact sm_congr λ k _=>by rw[tp k];grind
  have sr:b'^n*sm (λ k=>wt q n k*v^k*(ind i d k-c)) (n+1)=rn r n i d-c:=by
   rw[<-rn_ind r c (Nat.le_of_lt hi) hd,<-sm_mul];exact sm_congr λ k _=>by rw[tr k];grind
  have x:=nonneg_of (Rat.pow_pos b1:0<b^n) (by rw[sp];grind)
  have y:=nonneg_of (Rat.pow_pos b2:0<b'^n) (by rw[sr];grind)
  have x':=Rat.mul_nonneg hl x
  have y':=Rat.mul_nonneg hm y
  grind
theorem cu_at0:∀ n m:Nat,cu 0 n (m+1)=1
 | 0,m=>cu_all 0 (by omega)
 | n+1,m=>by rw[cu_step,cu_at0 n m];grind
theorem cu_at1:∀ {n m:Nat},m<=n->cu 1 n m=0
 | _,0,_=>cu_zero 1 _
 | n+1,m+1,h=>by rw[cu_step,cu_at1 (show m<=n by omega)];grind
theorem rn_uni {p q r:Rat} (h0:0<=p) (h1:p<=q) (h2:q<=r) (h3:r<=1) {n i d:Nat} (hi:i<=d) (hd:d<=n+1) :
  rn p n i d<=rn q n i d∨rn r n i d<=rn q n i d:=by
 have qu:=rn_unit (show 0<=q by grind) (show q<=1 by grind) (n:=n) hi
 by_cases e1:p=q
 ·left;rw[e1];exact Rat.le_refl
 by_cases e2:q=r
 ·right;rw[e2];exact Rat.le_refl
 by_cases e3:i=d
 ·left;subst e3;unfold rn;grind
 by_cases e4:i=0
 ·right;subst e4
  have:=cu_anti (show 0<=q by grind) h2 h3 n d
  simp only[rn,cu_zero];grind
 by_cases e5:d=n+1
 ·left;subst e5
  have:=cu_anti h0 h1 (show q<=1 by grind) n i
  simp only[rn,cu_all p (show n<n+1 by omega),cu_all q (show n<n+1 by omega)];grind
 by_cases e6:p=0
 ·left
  obtain⟨i',rfl⟩:∃ i',i=i'+1:=⟨i-1,by omega⟩
  obtain⟨d',rfl⟩:∃ d',d=d'+1:=⟨d-1,by omega⟩
  have:rn 0 n (i'+1) (d'+1)=0:=by unfold rn;rw[cu_at0,cu_at0];grind
  rw[e6,this];exact qu.1
 by_cases e7:r=1
 ·right
  have:rn 1 n i d=0:=by unfold rn;rw[cu_at1 (by omega),cu_at1 (by omega)];grind
  rw[e7,this];exact qu.1
 exact rn_uni0 (by grind) (by grind) (by grind) (by grind) (by omega) hd
end Gc
namespace Gc
open Ch
theorem rden (r:Rat):(0:Int)<(r.den:Int):=by have:=r.den_nz;omega
theorem rgcd (r:Rat):Int.gcd r.num (r.den:Int)=1:=by
 have:=r.reduced
 rw[Int.gcd];simpa [Nat.Coprime] using this
theorem rdenQ (r:Rat):(r.den:Rat)≠0:=by
 have:=r.den_nz
 intro h;exact this (by exact_mod_cast h)
theorem rsplit (r:Rat):r*(r.den:Rat)=(r.num:Rat):=by
 have h:=Rat.mkRat_self r
 rw[Rat.mkRat_eq_div] at h
 have d:=rdenQ r
 generalize (r.num:Rat)=x at *
 generalize (r.den:Rat)=y at *
 grind
theorem fr_rat {t b:Int} (h:b≠0) {r:Rat} (e:r*(b:Rat)=(t:Rat)):frT t b=r.num/\frB t b=(r.den:Int):=by
 refine fr_is h (rden r) (rgcd r) ?_
 have s:=rsplit r
 have:((t*(r.den:Int):Int):Rat)=((r.num*b:Int):Rat):=by push_cast;rw[<-e,<-s];grind
 exact_mod_cast this
theorem fr_plus (r s:Rat):frT (r.num*s.den+s.num*r.den) (r.den*s.den)=(r+s).num
  /\ frB (r.num*s.den+s.num*r.den) (r.den*s.den)=((r+s).den:Int):=by
 refine fr_rat (mul_ne (rden r) (rden s)) ?_
 have a:=rsplit r;have b:=rsplit s
 push_cast;rw[<-a,<-b];grind
theorem fr_minus (r s:Rat):frT (r.num*s.den-s.num*r.den) (r.den*s.den)=(r-s).num
  /\ frB (r.num*s.den-s.num*r.den) (r.den*s.den)=((r-s).den:Int):=by
 refine fr_rat (mul_ne (rden r) (rden s)) ?_
 have a:=rsplit r;have b:=rsplit s
 push_cast;rw[<-a,<-b];grind
theorem castlt {a b:Int}:((a:Rat)<(b:Rat))↔a<b:=Rat.intCast_lt_intCast
theorem r_under (r s:Rat):r.num*(s.den:Int)<s.num*(r.den:Int)↔r<s:=by
 have a:=rsplit r;have b:=rsplit s
 have dr:(0:Rat)<(r.den:Rat):=by exact_mod_cast (show 0<r.den by have:=r.den_nz;omega)
 have ds:(0:Rat)<(s.den:Rat):=by exact_mod_cast (show 0<s.den by have:=s.den_nz;omega)
 have p:=Rat.mul_pos dr ds
 rw[<-castlt];push_cast;rw[<-a,<-b]
 constructor
 ·intro h
  have:=pos_of p (x:=s-r) (by grind);grind
 ·intro h
  have:=Rat.mul_pos p (show 0<s-r by grind);grind
theorem r_same {r s:Rat} (h1:r.num=s.num) (h2:(r.den:Int)=(s.den:Int)):r=s:=by
 apply Rat.ext h1;exact_mod_cast h2
theorem r_nonneg (r:Rat):0<=r.num↔0<=r:=Rat.num_nonneg
theorem r_le1 (r:Rat):r.num<=(r.den:Int)↔r<=1:=by
 have:=r_under 1 r
 have e1:(1:Rat).num=1:=rfl
 have e2:((1:Rat).den:Int)=1:=rfl
 rw[e1,e2] at this
 constructor
 ·intro h
  by_cases c:1<r
  ·exact absurd (this.mpr c) (by omega)
  ·grind
 ·intro h
  by_cases c:1*(r.den:Int)<r.num*1
  ·have:=this.mp c;grind
  ·omega
noncomputable def rq (t b:Int):Rat:=(t:Rat) / (b:Rat)
noncomputable def Ov (B:Nat) (r:Rat):Prop:=∃ m:Int,r*(B:Rat)=(m:Rat)
theorem Ov.dvd {B:Nat}{r:Rat} (h:Ov B r):r.den ∣ B:=by
 obtain⟨m,hm⟩:=h
 have s:=rsplit r
 have:((r.num*(B:Int):Int):Rat)=((m*(r.den:Int):Int):Rat):=by push_cast;rw[<-hm,<-s];grind
 have e:r.num*(B:Int)=m*(r.den:Int):=by exact_mod_cast this
 have d:(r.den:Int) ∣ (B:Int):=dvd_cop (k:=(r.den:Int)) (m:=r.num) ⟨m,by rw[e];exact Int.mul_comm _ _⟩ (by rw[Int.gcd_comm];exact rgcd r)
 exact_mod_cast d
theorem Ov.self (r:Rat):Ov r.den r:=⟨r.num,rsplit r⟩
theorem Ov.add {B:Nat}{r s:Rat} (h:Ov B r) (k:Ov B s):Ov B (r+s):=by
 obtain⟨a,ha⟩:=h;obtain⟨b,hb⟩:=k
 exact⟨a+b,by push_cast;rw[<-ha,<-hb];grind⟩
theorem Ov.sub {B:Nat}{r s:Rat} (h:Ov B r) (k:Ov B s):Ov B (r-s):=by
 obtain⟨a,ha⟩:=h;obtain⟨b,hb⟩:=k
 exact⟨a-b,by push_cast;rw[<-ha,<-hb];grind⟩
theorem Ov.mul {A B:Nat}{r s:Rat} (h:Ov A r) (k:Ov B s):Ov (A*B) (r*s):=by
 obtain⟨a,ha⟩:=h;obtain⟨b,hb⟩:=k
 exact⟨a*b,by push_cast;rw[<-ha,<-hb];grind⟩
theorem Ov.up {A B:Nat}{r:Rat} (h:Ov A r) (k:A ∣ B):Ov B r:=by
 obtain⟨c,rfl⟩:=k
 obtain⟨a,ha⟩:=h
 exact⟨a*c,by push_cast;rw[<-ha];grind⟩
theorem Ov.one (B:Nat):Ov B 1:=⟨(B:Int),by push_cast;grind⟩
theorem wt_ov {p:Rat}{B:Nat} (h:Ov B p):∀ n k,Ov (B^n) (wt p n k)
 | 0,0=>by rw[wt];exact Ov.one _
 | 0,k+1=>by rw[wt];exact⟨0,by simp⟩
 | n+1,0=>by rw[wt,Nat.pow_succ,Nat.mul_comm];exact ((Ov.one B).sub h).mul (wt_ov h n 0)
 | n+1,k+1=>by
   rw[wt,Nat.pow_succ,Nat.mul_comm]
   exact (((Ov.one B).sub h).mul (wt_ov h n (k+1))).add (h.mul (wt_ov h n k))
theorem sm_ov {B:Nat}{f:Nat->Rat} (h:∀ k,Ov B (f k)):∀ m,Ov B (sm f m)
 | 0=>⟨0,by simp [sm]⟩
 | m+1=>(sm_ov h m).add (h m)
theorem cu_ov {p:Rat}{B:Nat} (h:Ov B p) (n m:Nat):Ov (B^n) (cu p n m):=sm_ov (wt_ov h n) m
theorem rn_ov {p:Rat}{B:Nat} (h:Ov B p) (n i d:Nat):Ov (B^n) (rn p n i d):=(cu_ov h n d).sub (cu_ov h n i)
structure RSz (n:Nat) (r:Rat):Prop where
 t:Sz n r.num
 b:Sz n (r.den:Int)
theorem RSz.of {n B:Nat}{r:Rat} (h:Ov B r) (hB:0<B) (hn:B<2^n) (h0:0<=r) (h1:r<=1):RSz n r:=by
 have a:=(r_nonneg r).mpr h0
 have b:=(r_le1 r).mpr h1
 have c:=Nat.le_of_dvd hB h.dvd
 constructor<;>(unfold Sz;omega)
theorem powlt {b m:Nat} (h:b<2^m):∀ {n:Nat},0<n->b^n<2^(m*n)
 | 1,_=>by simpa using h
 | n+2,_=>by
   have i:=powlt (b:=b) h (show 0<n+1 by omega)
   have e:b^(n+2)=b^(n+1)*b:=Nat.pow_succ b (n+1)
   have e2:2^(m*(n+2))=2^(m*(n+1))*2^m:=by rw[<-Nat.pow_add];congr 1
   rw[e,e2]
   exact Nat.mul_lt_mul'' i h
end Gc
namespace Gc
open Ch
theorem rmul_pow (a b:Rat):∀ n:Nat,(a*b)^n=a^n*b^n
 | 0=>by simp
 | n+1=>by rw[Rat.pow_succ,Rat.pow_succ,Rat.pow_succ,rmul_pow a b n];grind
theorem rpow_add (a:Rat) (m:Nat):∀ n:Nat,a^(m+n)=a^m*a^n
 | 0=>by simp
 | n+1=>by rw[<-Nat.add_assoc,Rat.pow_succ,Rat.pow_succ,rpow_add a m n];grind
theorem icast_pow (a:Int):∀ n:Nat,((a^n:Int):Rat)=(a:Rat)^n
 | 0=>by simp
 | n+1=>by rw[Int.pow_succ,Rat.pow_succ,<-icast_pow a n];push_cast;rfl
noncomputable def wtop (p:Rat) (n k:Nat):Int:=(binom n k:Int)*p.num^k*((p.den:Int)-p.num)^(n-k)
theorem wtop_is (p:Rat) {n k:Nat} (h:k<=n):wt p n k*(((p.den:Int)^n:Int):Rat)=((wtop p n k:Int):Rat):=by
 obtain⟨m,rfl⟩:=Nat.exists_eq_add_of_le h
 have s:=rsplit p
 have e1:k+m-k=m:=by omega
 rw[wt_form,wtop,e1,icast_pow,rpow_add]
 push_cast
 have a1:p^k*(p.den:Rat)^k=(p.num:Rat)^k:=by rw[<-rmul_pow,s]
 have a2:(1-p)*(p.den:Rat)=(p.den:Rat)-(p.num:Rat):=by rw[<-s];grind
 have a3:(1-p)^m*(p.den:Rat)^m=((p.den:Rat)-(p.num:Rat))^m:=by rw[<-rmul_pow,a2]
 have i1:((p.num^k:Int):Rat)=(p.num:Rat)^k:=icast_pow _ _
 have i2:((((p.den:Int)-p.num)^m:Int):Rat)=((p.den:Rat)-(p.num:Rat))^m:=by rw[icast_pow];push_cast;rfl
 first
 | rw[i1,i2,<-a1,<-a3]
 | rw[<-a1,<-a3]
 generalize p^k=x
 generalize (1-p)^m=y
 grind
noncomputable def ism (f:Nat->Int):Nat->Int
 | 0=>0
 | m+1=>ism f m+f m
theorem ism_cast {f:Nat->Int}{g:Nat->Rat}{c:Rat}:∀ {m:Nat},(∀ k,k<m->g k*c=(f k:Rat))->sm g m*c=((ism f m:Int):Rat)
 | 0,_=>by simp only[sm,ism];push_cast;grind
 | m+1,h=>by
   have i:=ism_cast (m:=m) λ k hk=>h k (by omega)
   have j:=h m (by omega)
   simp only[sm,ism];push_cast;grind
theorem Sz.powN {m:Nat}{b:Int} (h:Sz m b):∀ i:Nat,Sz (m*i+1) (b^i)
 | 0=>by rw[Int.pow_zero,Nat.mul_zero];show (1:Int).natAbs<2^1;decide
 | i+1=>by
   rw[Int.pow_succ]
   exact ((Sz.powN h i).mul h).mono (by rw[Nat.mul_succ];omega)
theorem binom_le:∀ n k:Nat,binom n k<=2^n
 | 0,0=>by decide
 | 0,k+1=>by simp [binom]
 | n+1,0=>by rw[b0];exact Nat.one_le_two_pow
 | n+1,k+1=>by
   have a:=binom_le n k
   have b:=binom_le n (k+1)
   rw[bs,Nat.pow_succ];omega
theorem sz_binom (n k:Nat):Sz (n+1) (binom n k:Int):=by
 unfold Sz
 have:=binom_le n k
 rw[Nat.pow_succ]
 have:0<2^n:=Nat.two_pow_pos n
 omega
theorem sz_sub {m:Nat}{a b:Int} (h0:0<=a) (h1:a<=b) (sb:Sz m b):Sz m (b-a):=by unfold Sz at *;omega
theorem sz_le {m:Nat}{a b:Int} (h0:0<=a) (h1:a<=b) (sb:Sz m b):Sz m a:=by unfold Sz at *;omega
end Gc
namespace Gc
open Ch
noncomputable def rsum (p:Rat) (n i j:Nat):Rat:=rn p n i (max i (j+1))
theorem rsum_le {p:Rat}{n i j:Nat} (h:i<=j):rsum p n i j=rn p n i (j+1):=by unfold rsum;rw[Nat.max_eq_right (by omega)]
theorem rsum_unit {p:Rat} (h0:0<=p) (h1:p<=1) (n i j:Nat):0<=rsum p n i j/\rsum p n i j<=1:=rn_unit h0 h1 (Nat.le_max_left _ _)
theorem rsum_ov {p:Rat}{B:Nat} (h:Ov B p) (n i j:Nat):Ov (B^n) (rsum p n i j):=rn_ov h n i _
end Gc
namespace Gc
noncomputable def lower (r:Rat):List Rat->Nat
 | []=>0
 | x::xs=>if x<r then lower r xs+1 else 0
noncomputable def insR (r:Rat) (l:List Rat):List Rat:=l.take (lower r l)++r::l.drop (lower r l)
theorem lower_le (r:Rat):∀ l:List Rat,lower r l<=l.length
 | []=>Nat.le_refl _
 | x::xs=>by
  have:=lower_le r xs
  rw[lower];split<;>(simp only[List.length_cons];omega)
theorem lower_lt {r:Rat}:∀ {l:List Rat}{i:Nat}{x:Rat},i<lower r l->l[i]? = some x->x<r
 | y::ys,0,x,h,e=>by
  rw[List.getElem?_cons_zero] at e;cases e
  rw[lower] at h
  by_cases c:y<r
  ·exact c
  ·rw[if_neg c] at h;omega
 | y::ys,i+1,x,h,e=>by
  rw[List.getElem?_cons_succ] at e
  rw[lower] at h
  by_cases c:y<r
  ·rw[if_pos c] at h;exact lower_lt (by omega) e
  ·rw[if_neg c] at h;omega
theorem lower_at {r:Rat}:∀ {l:List Rat}{x:Rat},l[lower r l]? = some x->¬ x<r
 | y::ys,x,e=>by
  rw[lower] at e
  by_cases c:y<r
  ·rw[if_pos c,List.getElem?_cons_succ] at e;exact lower_at e
  ·rw[if_neg c,List.getElem?_cons_zero] at e;cases e;exact c
theorem insR_len (r:Rat) (l:List Rat):(insR r l).length=l.length+1:=by
 have:=lower_le r l
 unfold insR;simp;omega
theorem insR_mem {r x:Rat}{l:List Rat}:x∈insR r l↔x=r∨x∈l:=by
 have:=List.take_append_drop (lower r l) l
 unfold insR
 constructor
 ·intro h
  rcases List.mem_append.mp h with h | h
  ·exact .inr (List.mem_of_mem_take h)
  ·rcases List.mem_cons.mp h with h | h
   ·exact .inl h
   ·exact .inr (List.mem_of_mem_drop h)
 ·rintro (h | h)
  ·subst h;simp
  ·rw[<-this] at h
   rcases List.mem_append.mp h with h | h
   ·exact List.mem_append.mpr (.inl h)
   ·exact List.mem_append.mpr (.inr (List.mem_cons_of_mem _ h))
noncomputable abbrev Up (l:List Rat):Prop:=l.Pairwise (·<=·)
theorem Up.at {l:List Rat} (h:Up l) {i j:Nat}{x y:Rat} (hij:i<=j) (ex:l[i]? = some x) (ey:l[j]? = some y):x<=y:=by
 by_cases e:i=j
 ·subst e;rw[ex] at ey;cases ey;exact Rat.le_refl
 ·obtain⟨hi,rfl⟩:=List.getElem?_eq_some_iff.mp ex
  obtain⟨hj,rfl⟩:=List.getElem?_eq_some_iff.mp ey
  exact List.pairwise_iff_getElem.mp h i j hi hj (by omega)
end Gc
namespace Gc
noncomputable def upto (p:Rat):List Rat->Nat
 | []=>0
 | x::xs=>if x<=p then upto p xs+1 else 0
theorem upto_len (p:Rat):∀ l:List Rat,upto p l<=l.length
 | []=>Nat.le_refl _
 | x::xs=>by
  have:=upto_len p xs
  rw[upto];split<;>(simp only[List.length_cons];omega)
theorem upto_lt {p:Rat}:∀ {l:List Rat}{i:Nat}{x:Rat},i<upto p l->l[i]? = some x->x<=p
 | y::ys,0,x,h,e=>by
  rw[List.getElem?_cons_zero] at e;cases e
  rw[upto] at h
  by_cases c:y<=p
  ·exact c
  ·rw[if_neg c] at h;omega
 | y::ys,i+1,x,h,e=>by
  rw[List.getElem?_cons_succ] at e
  rw[upto] at h
  by_cases c:y<=p
  ·rw[if_pos c] at h;exact upto_lt (by omega) e
  ·rw[if_neg c] at h;omega
theorem upto_at {p:Rat}:∀ {l:List Rat}{x:Rat},l[upto p l]? = some x->¬ x<=p
 | y::ys,x,e=>by
  rw[upto] at e
  by_cases c:y<=p
  ·rw[if_pos c,List.getElem?_cons_succ] at e;exact upto_at e
  ·rw[if_neg c,List.getElem?_cons_zero] at e;cases e;exact c
theorem upto_iff {p:Rat}{l:List Rat} (u:Up l) {i:Nat}{x:Rat} (e:l[i]? = some x):i<upto p l↔x<=p:=by
 constructor
 ·exact λ h=>upto_lt h e
 ·intro h
  by_cases c:i<upto p l
  ·exact c
  ·exfalso
   have hi:i<l.length:=(List.getElem?_eq_some_iff.mp e).1
   have hu:upto p l<l.length:=by omega
   have e0:=List.getElem?_eq_getElem hu
   have:=u.at (show upto p l<=i by omega) e0 e
   exact upto_at e0 (by grind)
theorem lower_iff {p:Rat}{l:List Rat} (u:Up l) {i:Nat}{x:Rat} (e:l[i]? = some x):i<lower p l↔x<p:=by
 constructor
 ·exact λ h=>lower_lt h e
 ·intro h
  by_cases c:i<lower p l
  ·exact c
  ·exfalso
   have hi:i<l.length:=(List.getElem?_eq_some_iff.mp e).1
   have hu:lower p l<l.length:=by omega
   have e0:=List.getElem?_eq_getElem hu
   have:=u.at (show lower p l<=i by omega) e0 e
   exact lower_at e0 (by grind)
theorem upto_mono {p q:Rat} (h:p<=q):∀ l:List Rat,upto p l<=upto q l
 | []=>Nat.le_refl _
 | x::xs=>by
  have:=upto_mono h xs
  rw[upto,upto]
  by_cases c:x<=p
  ·rw[if_pos c,if_pos (by grind)];omega
  ·rw[if_neg c];omega
theorem lower_mono {p q:Rat} (h:p<=q):∀ l:List Rat,lower p l<=lower q l
 | []=>Nat.le_refl _
 | x::xs=>by
  have:=lower_mono h xs
  rw[lower,lower]
  by_cases c:x<p
  ·rw[if_pos c,if_pos (by grind)];omega
  ·rw[if_neg c];omega
noncomputable def cov (n:Nat) (ls hs:List Rat) (a b p:Rat):Rat:=rn p n (lower b hs) (max (lower b hs) (upto a ls))
theorem held_iff {ls hs:List Rat} (u1:Up ls) (u2:Up hs) {a b l h:Rat}{k:Nat} (e1:ls[k]? = some l) (e2:hs[k]? = some h):(lower b hs<=k/\k<upto a ls)↔(l<=a/\b<=h):=by
 have x:=upto_iff (p:=a) u1 e1
 have y:=lower_iff (p:=b) u2 e2
 constructor
 ·rintro⟨h1,h2⟩
  refine⟨x.mp h2,?_⟩
  have:¬ h<b:=λ z=>by have:=y.mpr z;omega
  grind
 ·rintro⟨h1,h2⟩
  refine⟨?_,x.mpr h1⟩
  by_cases z:k<lower b hs
  ·have:=y.mp z;grind
  ·omega
theorem upto_same {ls:List Rat} (u:Up ls) {a p:Rat} (h:a<=p) (none:∀ x∈ls,¬ (a<x/\x<=p)):upto p ls=upto a ls:=by
 have m:=upto_mono h ls
 by_cases c:upto p ls=upto a ls
 ·exact c
 ·exfalso
  have hl:upto a ls<upto p ls:=by omega
  have hlen:upto a ls<ls.length:=Nat.lt_of_lt_of_le hl (upto_len p ls)
  have e:=List.getElem?_eq_getElem hlen
  have z1:=upto_lt hl e
  have z2:=upto_at e
  exact none _ (List.getElem_mem hlen) ⟨by grind,z1⟩
theorem lower_same {hs:List Rat} (u:Up hs) {p b:Rat} (h:p<=b) (none:∀ x∈hs,¬ (p<=x/\x<b)):lower p hs=lower b hs:=by
 have m:=lower_mono h hs
 by_cases c:lower p hs=lower b hs
 ·exact c
 ·exfalso
  have hl:lower p hs<lower b hs:=by omega
  have hlen:lower p hs<hs.length:=Nat.lt_of_lt_of_le hl (lower_le b hs)
  have e:=List.getElem?_eq_getElem hlen
  have z1:=lower_lt hl e
  have z2:=lower_at e
  exact none _ (List.getElem_mem hlen) ⟨by grind,z1⟩
theorem rn_wider {p:Rat} (h0:0<=p) (h1:p<=1) {n i d i' d':Nat} (hi:i'<=i) (hd:d<=d'):rn p n i d<=rn p n i' d':=by
 have a:=cu_mono h0 h1 n hi
 have b:=cu_mono h0 h1 n hd
 unfold rn;grind
theorem cov_wider {n:Nat}{ls hs:List Rat}{a b a' b' p:Rat} (h0:0<=p) (h1:p<=1) (ha:a<=a') (hb:b'<=b):cov n ls hs a b p<=cov n ls hs a' b' p:=by
 have x:=upto_mono ha ls
 have y:=lower_mono hb hs
 unfold cov
 by_cases c:lower b hs<=upto a ls
 ·exact rn_wider h0 h1 y (by omega)
 ·have e:max (lower b hs) (upto a ls)=lower b hs:=by omega
  rw[e]
  have z:rn p n (lower b hs) (lower b hs)=0:=by unfold rn;grind
  rw[z]
  exact (rn_unit h0 h1 (Nat.le_max_left _ _)).1
theorem cov_piece {n:Nat}{ls hs:List Rat} (u1:Up ls) (u2:Up hs) (l1:ls.length<=n+1) (l2:hs.length<=n+1) {a b p:Rat} (h0:0<=a) (h1:b<=1) (ha:a<p) (hb:p<b)
  (nl:∀ x∈ls,¬ (a<x/\x<b)) (nh:∀ x∈hs,¬ (a<x/\x<b)) :
  cov n ls hs p p p=cov n ls hs a b p/\(cov n ls hs a b a<=cov n ls hs p p p∨cov n ls hs a b b<=cov n ls hs p p p):=by
 have e1:upto p ls=upto a ls:=upto_same u1 (by grind) λ x hx z=>nl x hx ⟨z.1,by grind⟩
 have e2:lower p hs=lower b hs:=lower_same u2 (by grind) λ x hx z=>nh x hx ⟨by grind,z.2⟩
 have e:cov n ls hs p p p=cov n ls hs a b p:=by unfold cov;rw[e1,e2]
 refine⟨e,?_⟩
 rw[e]
 unfold cov
 have z1:=upto_len a ls
 have z2:=lower_le b hs
 exact rn_uni h0 (by grind) (by grind) h1 (Nat.le_max_left _ _) (by omega)
end Gc
namespace Gc
end Gc
namespace Gc
theorem upto_cnt {r:Rat}:∀ {l:List Rat},Up l->(l.filter λ x=>decide (x<=r)).length=upto r l
 | [],_=>rfl
 | x::xs,u=>by
  obtain⟨h1,h2⟩:=List.pairwise_cons.mp u
  rw[upto]
  by_cases c:x<=r
  ·rw[if_pos c,List.filter_cons_of_pos (by simpa using c),List.length_cons,upto_cnt h2]
  ·rw[if_neg c,List.filter_cons_of_neg (by simpa using c)]
   have:(xs.filter λ x=>decide (x<=r)) = []:=List.filter_eq_nil_iff.mpr λ y hy=>by
    have:=h1 y hy
    simp;grind
   rw[this];rfl
end Gc
namespace Gc
noncomputable abbrev Inc (l:List Rat):Prop:=l.Pairwise (· < ·)
theorem Inc.up {l:List Rat} (h:Inc l):Up l:=List.Pairwise.imp (λ h=>by grind) h
noncomputable def addE (acc:List Rat) (r:Rat):List Rat:=if r∈acc then acc else insR r acc
noncomputable def edg (l:List Rat):List Rat:=l.foldl addE []
theorem edg_snoc (l:List Rat) (r:Rat):edg (l++[r])=addE (edg l) r:=by unfold edg;rw[List.foldl_append];rfl
theorem insR_inc {r:Rat}{l:List Rat} (h:Inc l) (hr:r ∉ l):Inc (insR r l):=by
 unfold insR
 have hu:=h.up
 refine List.pairwise_append.mpr ⟨h.sublist (List.take_sublist _ _),List.pairwise_cons.mpr ⟨?_,h.sublist (List.drop_sublist _ _)⟩,?_⟩
 ·intro x hx
  obtain⟨i,hi⟩:=List.mem_iff_getElem?.mp hx
  rw[List.getElem?_drop] at hi
  have h1:¬ x<r:=λ c=>by
   have:=(lower_iff hu hi (p:=r)).mpr c
   omega
  have h2:x≠r:=λ e=>hr (e ▸ List.mem_of_getElem? hi)
  grind
 ·intro x hx y hy
  obtain⟨i,hi⟩:=List.mem_iff_getElem?.mp hx
  have hil:i<lower r l:=by
   have:=(List.getElem?_eq_some_iff.mp hi).1
   simp at this
   omega
  rw[List.getElem?_take_of_lt hil] at hi
  have hxr:=lower_lt hil hi
  rcases List.mem_cons.mp hy with rfl | hy
  ·exact hxr
  ·obtain⟨j,hj⟩:=List.mem_iff_getElem?.mp hy
   rw[List.getElem?_drop] at hj
   have h1:¬ y<r:=λ c=>by
    have:=(lower_iff hu hj (p:=r)).mpr c
    omega
   grind
theorem addE_inc {r:Rat}{l:List Rat} (h:Inc l):Inc (addE l r):=by
 unfold addE
 split
 ·exact h
 ·exact insR_inc h ‹_›
theorem addE_mem {r x:Rat}{l:List Rat}:x∈addE l r↔x=r∨x∈l:=by
 unfold addE
 split
 ·constructor
  ·exact .inr
  ·rintro (rfl | h)
   ·assumption
   ·exact h
 ·exact insR_mem
theorem edg_ok (l:List Rat):Inc (edg l)/\∀ x,x∈edg l↔x∈l:=by
 have:∀ (n:Nat) (l:List Rat),l.length=n->Inc (edg l)/\∀ x,x∈edg l↔x∈l:=by
  intro n
  induction n with
  | zero =>
   intro l hl
   have:l = []:=List.eq_nil_of_length_eq_zero hl
   subst this
   exact⟨List.Pairwise.nil,λ x=>Iff.rfl⟩
  | succ n ih =>
   intro l hl
   rcases List.eq_nil_or_concat l with e | ⟨l',r,e⟩
   ·rw[e] at hl;simp at hl
   ·rw[List.concat_eq_append] at e
    subst e
    obtain⟨i1,i2⟩:=ih l' (by simp at hl;exact hl)
    rw[edg_snoc]
    refine⟨addE_inc i1,λ x=>?_⟩
    rw[addE_mem,i2,List.mem_append,List.mem_singleton]
    constructor
    ·rintro (h | h)
     ·exact .inr h
     ·exact .inl h
    ·rintro (h | h)
     ·exact .inr h
     ·exact .inl h
 exact this _ l rfl
theorem addE_len (l:List Rat) (r:Rat):(addE l r).length<=l.length+1:=by
 unfold addE
 split
 ·omega
 ·rw[insR_len];omega
theorem edg_len (l:List Rat):(edg l).length<=l.length:=by
 have:∀ (n:Nat) (l:List Rat),l.length=n->(edg l).length<=n:=by
  intro n
  induction n with
  | zero =>
   intro l hl
   have:l = []:=List.eq_nil_of_length_eq_zero hl
   subst this
   exact Nat.le_refl _
  | succ n ih =>
   intro l hl
   rcases List.eq_nil_or_concat l with e | ⟨l',r,e⟩
   ·rw[e] at hl;simp at hl
   ·rw[List.concat_eq_append] at e
    subst e
    have:=ih l' (by simp at hl;exact hl)
    have:=addE_len (edg l') r
    rw[edg_snoc]
    omega
 exact this _ l rfl
theorem inc_gap {l:List Rat} (h:Inc l) {k:Nat}{a b:Rat} (ea:l[k]? = some a) (eb:l[k+1]? = some b):a<b/\∀ x∈l,¬ (a<x/\x<b):=by
 have hu:=h.up
 have h1:a<b:=by
  obtain⟨h1,e1⟩:=List.getElem?_eq_some_iff.mp ea
  obtain⟨h2,e2⟩:=List.getElem?_eq_some_iff.mp eb
  rw[<-e1,<-e2]
  exact List.pairwise_iff_getElem.mp h k (k+1) h1 h2 (by omega)
 refine⟨h1,λ x hx=>?_⟩
 obtain⟨i,hi⟩:=List.mem_iff_getElem?.mp hx
 rintro⟨c1,c2⟩
 by_cases z:i<=k
 ·have:=hu.at z hi ea;grind
 ·have:=hu.at (show k+1<=i by omega) eb hi;grind
end Gc
namespace Gc
end Gc
namespace Gc
open Ch
noncomputable def wtI (t b:Int) (n k:Nat):Int:=(binom n k:Int)*t^k*(b-t)^(n-k)
theorem wtI_is {r:Rat}{t b:Int} (e:r*(b:Rat)=(t:Rat)) {n k:Nat} (h:k<=n):wt r n k*((b^n:Int):Rat)=((wtI t b n k:Int):Rat):=by
 obtain⟨m,rfl⟩:=Nat.exists_eq_add_of_le h
 have e1:k+m-k=m:=by omega
 rw[wt_form,wtI,e1,icast_pow,rpow_add]
 have a1:r^k*(b:Rat)^k=(t:Rat)^k:=by rw[<-rmul_pow,e]
 have a2:(1-r)*(b:Rat)=(b:Rat)-(t:Rat):=by rw[<-e];grind
 have a3:(1-r)^m*(b:Rat)^m=((b:Rat)-(t:Rat))^m:=by rw[<-rmul_pow,a2]
 have i1:((t^k:Int):Rat)=(t:Rat)^k:=icast_pow _ _
 have i2:(((b-t)^m:Int):Rat)=((b:Rat)-(t:Rat))^m:=by rw[icast_pow,Rat.intCast_sub]
 rw[Rat.intCast_mul,Rat.intCast_mul,i1,i2,<-a1,<-a3,Rat.intCast_natCast]
 generalize r^k=x
 generalize (1-r)^m=y
 grind
theorem sm_sel {f:Nat->Rat}{i j:Nat}:∀ m,sm (λ k=>if i<=k/\k<j then f k else 0) m=sm f (min m (max i j))-sm f (min m i)
 | 0=>by simp [sm];grind
 | m+1=>by
  have ih:=sm_sel (f:=f) (i:=i) (j:=j) m
  show sm (λ k=>if i<=k/\k<j then f k else 0) m+(if i<=m/\m<j then f m else 0)=_
  rw[ih]
  by_cases c1:i<=m
  ·by_cases c2:m<j
   ·rw[if_pos ⟨c1,c2⟩]
    have e1:min (m+1) (max i j)=min m (max i j)+1:=by omega
    have e2:min m (max i j)=m:=by omega
    have e3:min (m+1) i=min m i:=by omega
    rw[e1,e3]
    show _=sm f (min m (max i j))+f (min m (max i j))-_
    rw[e2]
    grind
   ·rw[if_neg (by omega)]
    have e1:min (m+1) (max i j)=min m (max i j):=by omega
    have e3:min (m+1) i=min m i:=by omega
    rw[e1,e3]
    grind
  ·rw[if_neg (by omega)]
   have e1:min (m+1) (max i j)=m+1:=by omega
   have e2:min m (max i j)=m:=by omega
   have e3:min (m+1) i=m+1:=by omega
   have e4:min m i=m:=by omega
   rw[e1,e2,e3,e4]
   grind
noncomputable def hT (ls hs:List Rat) (r:Rat) (t b:Int) (n:Nat) (k:Nat):Int:=if lower r hs<=k/\k<upto r ls then wtI t b n k else 0
theorem hT_is {ls hs:List Rat}{r:Rat}{t b:Int}{n:Nat} (l1:ls.length<=n+1) (l2:hs.length<=n+1) (e:r*(b:Rat)=(t:Rat)):cov n ls hs r r r*((b^n:Int):Rat)=((ism (hT ls hs r t b n) (n+1):Int):Rat):=by
 have a:=ism_cast (f:=hT ls hs r t b n) (g:=λ k=>if lower r hs<=k/\k<upto r ls then wt r n k else 0) (c:=((b^n:Int):Rat)) (m:=n+1) λ k hk=>by
  unfold hT
  by_cases c:lower r hs<=k/\k<upto r ls
  ·rw[if_pos c,if_pos c]
   exact wtI_is e (by omega)
  ·rw[if_neg c,if_neg c]
   show (0:Rat)*_=_
   rw[Rat.zero_mul]<;>rfl
 rw[<-a,sm_sel]
 have u1:=upto_len r ls
 have u2:=lower_le r hs
 have e1:min (n+1) (max (lower r hs) (upto r ls))=max (lower r hs) (upto r ls):=by omega
 have e2:min (n+1) (lower r hs)=lower r hs:=by omega
 rw[e1,e2]<;>rfl
theorem inc_between {es:List Rat} (h:Inc es) (m0:(0:Rat)∈es) (m1:(1:Rat)∈es) {p:Rat} (h0:0<=p) (h1:p<=1):∃ (k:Nat) (a b:Rat),es[k]? = some a/\es[k+1]? = some b/\a<=p/\p<=b:=by
 have hu:=h.up
 obtain⟨i,hi⟩:=List.mem_iff_getElem?.mp m0
 obtain⟨j,hj⟩:=List.mem_iff_getElem?.mp m1
 have ui:=(upto_iff hu hi (p:=p)).mpr h0
 have ul:=upto_len p es
 by_cases c:upto p es<es.length
 ·have ea:=List.getElem?_eq_getElem (show upto p es-1<es.length by omega)
  have eb:=List.getElem?_eq_getElem c
  refine⟨upto p es-1,_,_,ea,by rw[show upto p es-1+1=upto p es by omega];exact eb,(upto_iff hu ea).mp (by omega),?_⟩
  have:=upto_at eb
  grind
 ·have e:upto p es=es.length:=by omega
  have jl:=(List.getElem?_eq_some_iff.mp hj).1
  have jp:=(upto_iff hu hj (p:=p)).mp (by omega)
  have il:=(List.getElem?_eq_some_iff.mp hi).1
  have nij:i≠j:=λ z=>by subst z;rw[hi] at hj;cases hj
  have ij:i<j:=by
   by_cases z:i<j
   ·exact z
   ·have:=hu.at (show j<=i by omega) hj hi
    exact absurd this (by decide)
  have ea:=List.getElem?_eq_getElem (show j-1<es.length by omega)
  refine⟨j-1,_,1,ea,by rw[show j-1+1=j by omega];exact hj,?_,h1⟩
  have:=hu.at (show j-1<=j by omega) ea hj
  grind
end Gc
set_option maxRecDepth 10000
namespace Gc
open Ch
noncomputable def Bt (l0 l1 h0 h1 y1 y2:Int):Prop:=0<y2/\Int.gcd y1 y2=1/\l0*y2<y1*l1/\y1*h1<h0*y2
noncomputable def simF:Nat->Int->Int->Int->Int->Int->Int->Int->Int->Int×Int
 | 0,_,_,_,_,_,_,_,_=>(0,1)
 | k+1,l0,l1,h0,h1,a,b,c,d=>if h0<=(l0 / l1+1)*h1 then simF k h1 (h0-l0 / l1*h1) l1 (l0-l0 / l1*l1) (l0 / l1*a+c) (l0 / l1*b+d) a b else ((l0 / l1+1)*a+c,(l0 / l1+1)*b+d)
structure SI (Z A B l0 l1 h0 h1 a b c d:Int):Prop where
 l0p:0<=l0
 l1p:0<l1
 h0p:0<h0
 h1p:0<=h1
 lt:l0*h1<h0*l1
 ap:0<=a
 bp:0<=b
 cp:0<=c
 dp:0<=d
 z1:l0<=Z
 z2:l1<=Z
 z3:h0<=Z
 z4:h1<=Z
 sA:a*(l0+h0)+c*(l1+h1)=A
 sB:b*(l0+h0)+d*(l1+h1)=B
theorem fl_ok {l0 l1:Int} (h0:0<=l0) (h1:0<l1):0<=l0 / l1/\l0 / l1*l1<=l0/\l0<l0 / l1*l1+l1/\l0 / l1<=l0:=by
 have e:=Int.mul_ediv_add_emod l0 l1
 have m0:=Int.emod_nonneg l0 (Int.ne_of_gt h1)
 have m1:=Int.emod_lt_of_pos l0 h1
 have w0:0<=l0 / l1:=Int.ediv_nonneg h0 (Int.le_of_lt h1)
 rw[Int.mul_comm] at e
 refine⟨w0,by omega,by omega,?_⟩
 have:l0 / l1*1<=l0 / l1*l1:=Int.mul_le_mul_of_nonneg_left (by omega) w0
 omega
theorem mul0 {a b:Int} (ha:0<=a) (hb:0<=b):0<=a*b:=Int.mul_nonneg ha hb
section
variable {Z A B l0 l1 h0 h1 a b c d:Int}
theorem SI.low (s:SI Z A B l0 l1 h0 h1 a b c d):0<h0-l0 / l1*h1:=by
 obtain⟨w0,w1,w2,w3⟩:=fl_ok s.l0p s.l1p
 have e1:l0 / l1*l1*h1<=l0*h1:=Int.mul_le_mul_of_nonneg_right w1 s.h1p
 have e2:l0 / l1*l1*h1=l0 / l1*h1*l1:=by grind
 have e3:l0 / l1*h1*l1<h0*l1:=by have:=s.lt;omega
 have:=Int.lt_of_mul_lt_mul_right e3 (Int.le_of_lt s.l1p)
 omega
theorem SI.step (s:SI Z A B l0 l1 h0 h1 a b c d) (hc:h0<=(l0 / l1+1)*h1) :
  SI Z A B h1 (h0-l0 / l1*h1) l1 (l0-l0 / l1*l1) (l0 / l1*a+c) (l0 / l1*b+d) a b/\(h0-l0 / l1*h1)+(l0-l0 / l1*l1)<l1+h1:=by
 have p1:=s.low
 obtain⟨w0,w1,w2,w3⟩:=fl_ok s.l0p s.l1p
 have lt:=s.lt
 have sA:=s.sA
 have sB:=s.sB
 have q1:=mul0 w0 s.h1p
 have q2:=mul0 w0 (Int.le_of_lt s.l1p)
 have q3:=mul0 w0 s.ap
 have q4:=mul0 w0 s.bp
 have z1:=s.z1
 have z2:=s.z2
 have z3:=s.z3
 have z4:=s.z4
 have cp:=s.cp
 have dp:=s.dp
 have hc':h0<=l0 / l1*h1+h1:=by rw[Int.add_mul,Int.one_mul] at hc;exact hc
 generalize l0 / l1=w at *
 refine⟨⟨s.h1p,p1,s.l1p,by omega,?_,by omega,by omega,s.ap,s.bp,s.z4,by omega,s.z2,by omega,?_,?_⟩,by omega⟩
 ·have e1:h1*(l0-w*l1)=l0*h1-w*l1*h1:=by grind
  have e2:l1*(h0-w*h1)=h0*l1-w*l1*h1:=by grind
  rw[e1,e2]
  omega
 ·rw[<-sA];grind
 ·rw[<-sB];grind
theorem Bt.step {y1 y2:Int} (s:SI Z A B l0 l1 h0 h1 a b c d) (h:Bt h1 (h0-l0 / l1*h1) l1 (l0-l0 / l1*l1) y1 y2):Bt l0 l1 h0 h1 (l0 / l1*y1+y2) y1:=by
 obtain⟨y2p,g,i1,i2⟩:=h
 have p1:=s.low
 have y1p:0<y1:=by
  have:0<y1*(h0-l0 / l1*h1):=Int.lt_of_le_of_lt (mul0 s.h1p (Int.le_of_lt y2p)) i1
  exact Int.pos_of_mul_pos_left this p1
 refine⟨y1p,?_,?_,?_⟩
 ·rw[Int.gcd_comm] at g
  rw[Int.gcd_mul_right_add_left,g]
 ·have e:(l0 / l1*y1+y2)*l1=l0 / l1*l1*y1+l1*y2:=by grind
  have e2:y1*(l0-l0 / l1*l1)=l0*y1-l0 / l1*l1*y1:=by grind
  rw[e2] at i2
  rw[e]
  omega
 ·have e:(l0 / l1*y1+y2)*h1=l0 / l1*h1*y1+h1*y2:=by grind
  have e2:y1*(h0-l0 / l1*h1)=h0*y1-l0 / l1*h1*y1:=by grind
  rw[e2] at i1
  rw[e]
  omega
end
theorem simF_ok:∀ (k:Nat) {Z A B l0 l1 h0 h1 a b c d:Int},SI Z A B l0 l1 h0 h1 a b c d->(l1+h1).toNat<k ->
  (∃ y1 y2,Bt l0 l1 h0 h1 y1 y2/\simF k l0 l1 h0 h1 a b c d=(a*y1+c*y2,b*y1+d*y2))/\(simF k l0 l1 h0 h1 a b c d).2<=B
 | 0,_,_,_,_,_,_,_,_,_,_,_,_,hk=>absurd hk (Nat.not_lt_zero _)
 | k+1,Z,A,B,l0,l1,h0,h1,a,b,c,d,s,hk=>by
  have l1p:=s.l1p
  have h1p:=s.h1p
  unfold simF
  by_cases hc:h0<=(l0 / l1+1)*h1
  ·rw[if_pos hc]
   obtain⟨s',m⟩:=s.step hc
   have p1:=s.low
   have p2:=s'.h1p
   obtain⟨⟨y1,y2,hb,e⟩,hB⟩:=simF_ok k s' (by omega)
   refine⟨⟨_,_,Bt.step s hb,?_⟩,hB⟩
   rw[e]
   generalize l0 / l1=w
   exact Prod.ext (by show (w*a+c)*y1+a*y2=a*(w*y1+y2)+c*y1;grind) (by show (w*b+d)*y1+b*y2=b*(w*y1+y2)+d*y1;grind)
  ·rw[if_neg hc]
   obtain⟨w0,w1,w2,w3⟩:=fl_ok s.l0p s.l1p
   refine⟨⟨l0 / l1+1,1,⟨by decide,by rw[Int.gcd_one_right],?_,by omega⟩,Prod.ext (by show (l0 / l1+1)*a+c=a*(l0 / l1+1)+c*1;grind) (by show (l0 / l1+1)*b+d=b*(l0 / l1+1)+d*1;grind)⟩,?_⟩
   ·rw[Int.add_mul,Int.one_mul]
    omega
   ·show (l0 / l1+1)*b+d<=B
    rw[<-s.sB,Int.mul_add,Int.mul_add,Int.add_mul,Int.one_mul]
    have e1:l0 / l1*b<=l0*b:=Int.mul_le_mul_of_nonneg_right w3 s.bp
    have e2:b*1<=b*h0:=Int.mul_le_mul_of_nonneg_left (by have:=s.h0p;omega) s.bp
    have e3:d*1<=d*l1:=Int.mul_le_mul_of_nonneg_left (by omega) s.dp
    have e4:=mul0 s.dp s.h1p
    have e5:l0*b=b*l0:=Int.mul_comm ..
    omega
noncomputable def simP (l h:Rat):Int×Int:=simF ((l.den:Int)+(h.den:Int)+1).toNat l.num (l.den:Int) h.num (h.den:Int) 1 0 0 1
noncomputable def simR (l h:Rat):Rat:=rq (simP l h).1 (simP l h).2
theorem sim_si {l h:Rat} (l0:0<=l) (hlt:l<h) {Z:Int} (z1:l.num<=Z) (z2:(l.den:Int)<=Z) (z3:h.num<=Z) (z4:(h.den:Int)<=Z) :
  SI Z (l.num+h.num) ((l.den:Int)+(h.den:Int)) l.num (l.den:Int) h.num (h.den:Int) 1 0 0 1:=by
 have lp:=rden l
 have hp:=rden h
 have ln:0<=l.num:=(r_nonneg l).mpr l0
 have lt:=(r_under l h).mpr hlt
 have hn:0<h.num:=by
  have:0<=l.num*(h.den:Int):=mul0 ln (Int.le_of_lt hp)
  have:0<h.num*(l.den:Int):=by omega
  exact Int.pos_of_mul_pos_left this lp
 exact⟨ln,lp,hn,Int.le_of_lt hp,lt,by decide,by decide,by decide,by decide,z1,z2,z3,z4,by omega,by omega⟩
theorem rq_low {n d:Int} (hd:0<d) (g:Int.gcd n d=1):(rq n d).num=n/\((rq n d).den:Int)=d:=by
 have hq : (d : Rat) ≠ 0 := by intro e; have : d = 0 := by exact_mod_cast e
                               omega
 have e:rq n d*(d:Rat)=(n:Rat):=by unfold rq;grind
 obtain⟨f1,f2⟩:=fr_rat (Int.ne_of_gt hd) e
 unfold frT at f1
 unfold frB at f2
 rw[frD_pos hd,g] at f1 f2
 refine⟨f1.symm.trans ?_,f2.symm.trans ?_⟩
 ·exact Int.fdiv_one n
 ·exact Int.fdiv_one d
theorem sim_ok {l h:Rat} (l0:0<=l) (hlt:l<h):(simR l h).num=(simP l h).1/\((simR l h).den:Int)=(simP l h).2/\l<simR l h/\simR l h<h/\((simR l h).den:Int)<=(l.den:Int)+(h.den:Int):=by
 have s:=sim_si l0 hlt (Z:=max (max l.num (l.den:Int)) (max h.num (h.den:Int))) (by omega) (by omega) (by omega) (by omega)
 have lp:=rden l
 have hp:=rden h
 obtain⟨⟨y1,y2,⟨b1,b2,b3,b4⟩,e⟩,hB⟩:=simF_ok ((l.den:Int)+(h.den:Int)+1).toNat s (by omega)
 have e1:simP l h=(y1,y2):=by
  unfold simP
  rw[e]
  exact Prod.ext (by show 1*y1+0*y2=y1;omega) (by show 0*y1+1*y2=y2;omega)
 have hB':(simP l h).2<=(l.den:Int)+(h.den:Int):=hB
 obtain⟨f1,f2⟩:=rq_low b1 b2
 have er:simR l h=rq y1 y2:=by unfold simR;rw[e1]
 rw[e1] at hB' ⊢
 refine⟨by rw[er];exact f1,by rw[er];exact f2,?_,?_,by rw[er,f2];exact hB'⟩
 ·refine (r_under _ _).mp ?_
  rw[er,f1,f2]
  exact b3
 ·refine (r_under _ _).mp ?_
  rw[er,f1,f2]
  exact b4
noncomputable def rch (p f:Rat) (h:Nat):Rat:=p+(f-p) / (2:Rat)^h
noncomputable def besR (p f:Rat) (h:Nat):Rat:=if p<rch p f h then simR p (rch p f h) else simR (rch p f h) p
theorem two_pow (h:Nat):(0:Rat)<(2:Rat)^h/\(1:Rat)<=(2:Rat)^h:=by
 induction h with
 | zero=>rw[Rat.pow_zero];exact⟨by decide,by decide⟩
 | succ h ih=>rw[Rat.pow_succ];grind
theorem rch_in {p f:Rat} (h:Nat):(p<f->p<rch p f h/\rch p f h<=f)/\(f<p->f<=rch p f h/\rch p f h<p):=by
 obtain⟨t0,t1⟩:=two_pow h
 unfold rch
 have e:(f-p) / (2:Rat)^h*(2:Rat)^h=f-p:=by grind
 generalize (f-p) / (2:Rat)^h=x at *
 constructor
 ·intro c
  have xp:0<x:=by
   have:0<(2:Rat)^h*x:=by grind
   exact pos_of t0 this
  have:x*1<=x*(2:Rat)^h:=Rat.mul_le_mul_of_nonneg_left t1 (by grind)
  grind
 ·intro c
  have xp:0 < -x:=by
   have:0<(2:Rat)^h * -x:=by grind
   exact pos_of t0 this
  have:(-x)*1<=(-x)*(2:Rat)^h:=Rat.mul_le_mul_of_nonneg_left t1 (by grind)
  grind
theorem bes_in {p f:Rat} (p0:0<=p) (f0:0<=f) (h:Nat):(p<f->p<besR p f h/\besR p f h<rch p f h)/\(f<p->rch p f h<besR p f h/\besR p f h<p):=by
 obtain⟨i1,i2⟩:=rch_in (p:=p) (f:=f) h
 unfold besR
 constructor
 ·intro c
  rw[if_pos (i1 c).1]
  have:=sim_ok p0 (i1 c).1
  exact⟨this.2.2.1,this.2.2.2.1⟩
 ·intro c
  have j:=i2 c
  rw[if_neg (by grind)]
  have:=sim_ok (show 0<=rch p f h by grind) j.2
  exact⟨this.2.2.1,this.2.2.2.1⟩
theorem bes_den {p f:Rat} (p0:0<=p) (f0:0<=f) (hpf:p≠f) (h:Nat):((besR p f h).den:Int)<=(p.den:Int)+((rch p f h).den:Int):=by
 obtain⟨i1,i2⟩:=rch_in (p:=p) (f:=f) h
 unfold besR
 by_cases c:p<f
 ·rw[if_pos (i1 c).1]
  exact (sim_ok p0 (i1 c).1).2.2.2.2
 ·have c':f<p:=by grind
  have j:=i2 c'
  rw[if_neg (by grind)]
  have:=(sim_ok (show 0<=rch p f h by grind) j.2).2.2.2.2
  omega
end Gc
set_option maxHeartbeats 4000000
namespace Gc
theorem upto_of {p:Rat}:∀ {ls ls':List Rat},ls.length=ls'.length->(∀ (k:Nat) (x y:Rat),ls[k]? = some x->ls'[k]? = some y->y<=x)->upto p ls<=upto p ls'
 | [],[],_,_=>Nat.le_refl _
 | [],_::_,h,_=>by simp at h
 | _::_,[],h,_=>by simp at h
 | x::xs,y::ys,h,g=>by
  have i:=upto_of (p:=p) (ls:=xs) (ls':=ys) (by simpa using h) λ k u v e1 e2=>g (k+1) u v (by simpa using e1) (by simpa using e2)
  have j:=g 0 x y rfl rfl
  rw[upto,upto]
  by_cases c:x<=p
  ·rw[if_pos c,if_pos (by grind)];omega
  ·rw[if_neg c];split<;>omega
theorem lower_of {p:Rat}:∀ {hs hs':List Rat},hs.length=hs'.length->(∀ (k:Nat) (x y:Rat),hs[k]? = some x->hs'[k]? = some y->x<=y)->lower p hs'<=lower p hs
 | [],[],_,_=>Nat.le_refl _
 | [],_::_,h,_=>by simp at h
 | _::_,[],h,_=>by simp at h
 | x::xs,y::ys,h,g=>by
  have i:=lower_of (p:=p) (hs:=xs) (hs':=ys) (by simpa using h) λ k u v e1 e2=>g (k+1) u v (by simpa using e1) (by simpa using e2)
  have j:=g 0 x y rfl rfl
  rw[lower,lower]
  by_cases c:y<p
  ·rw[if_pos c,if_pos (by grind)];omega
  ·rw[if_neg c];split<;>omega
theorem cov_in {n:Nat}{ls hs ls' hs':List Rat}{p:Rat} (h0:0<=p) (h1:p<=1) (x:upto p ls<=upto p ls') (y:lower p hs'<=lower p hs):cov n ls hs p p p<=cov n ls' hs' p p p:=by
 unfold cov
 by_cases c:lower p hs<=upto p ls
 ·exact rn_wider h0 h1 y (by omega)
 ·have e:max (lower p hs) (upto p ls)=lower p hs:=by omega
  rw[e]
  have z:=(rn_unit h0 h1 (n:=n) (show lower p hs'<=max (lower p hs') (upto p ls') by omega)).1
  have:rn p n (lower p hs) (lower p hs)=0:=by unfold rn;grind
  rw[this];exact z
theorem tiny {n:Nat} (n1:1<=n) {d g:Rat} (d0:0<d) (g0:0<g):∃ t:Rat,0<t/\t<d/\(n:Rat)*t<g:=by
 have N0:(0:Rat)<(n:Rat):=castpos n1
 generalize (n:Rat)=N at *
 have k1:=Rat.mul_pos N0 d0
 have D0:0<N*d+g:=by grind
 have e:(d*g / (N*d+g))*(N*d+g)=d*g:=by grind
 generalize d*g / (N*d+g)=t at *
 have k2:=Rat.mul_pos d0 g0
 have k3:=Rat.mul_pos k1 d0
 have k4:=Rat.mul_pos g0 g0
 refine⟨t,pos_of D0 (by grind),?_,?_⟩
 ·have:=pos_of D0 (x:=d-t) (by grind)
  grind
 ·have e2:N*(t*(N*d+g))=N*(d*g):=by rw[e]
  have e3:(N*d+g)*(g-N*t)=g*g:=by grind
  have:=pos_of D0 (x:=g-N*t) (by rw[e3];exact k4)
  grind
end Gc
set_option maxHeartbeats 4000000
namespace L2
open PySem PySem.Spec PyProof.Rows PySem.W Gc
theorem comp_listRG {K:PySem.W.Frag}{a:Addr}{xs:List V}{te:TE}{st:St}{H1:Hp}{Q:VK}{D:Addr} (R:Nat->List V->Hp->Prop) (hD:H1 D=none) (q1:SqL K H1 a xs) (hn:xs.length<=sizeLine) (h0:R 0 [] (upd H1 D (.lst [])))
  (hs:∀ (i:Nat) (x:V) (ys:List V) (H2:Hp) (k:VK),xs[i]? = some x->Same H1 H2->H2 D=some (.lst ys)->ys.length=i->R i ys H2->(∀ y H4,Same H2 H4->R (i+1) (ys++[y]) (upd H4 D (.lst (ys++[y])))->k y H4)->te (some x::st) H2 k)
  (hd:∀ ys H2,Same H1 H2->H2 D=some (.lst ys)->ys.length=xs.length->R xs.length ys H2->Q (.ref D) H2):CompG (Itl K a) (gName 0) tYes te 1 st D H1 Q:=by
 refine⟨λ i m ys H2=>m=xs.length-i/\i<=xs.length/\ys.length=i/\Same H1 H2/\H2 D=some (.lst ys)/\R i ys H2,⟨xs.length,by simp,Nat.zero_le _,rfl,same_upd (Same.refl H1) hD,upd_same,h0⟩,?_⟩
 rintro i m ys H2 ⟨rfl,hi,hl,sm,e,r⟩
 by_cases hlt:i<xs.length
 ·have ex:xs[i]? = some xs[i]:=List.getElem?_eq_getElem hlt
  refine .inr ⟨⟨xs,_,sm.seq q1,ex⟩,?_⟩
  rintro x H3 σ0 ⟨rfl,hx⟩ l0
  have hx':=hx xs (sm.seq q1)
  obtain⟨a',rfl⟩:∃ a,σ0 = [a]:=by
   match σ0,l0 with
   | [a],_=>exact⟨a,rfl⟩
  refine⟨⟨[some x],rfl,rfl⟩,?_⟩
  exact hs i x ys _ _ hx' sm e hl r λ y H4 s4 r4=>⟨s4 _ _ e,by omega,xs.length-(i+1),by omega,rfl,hlt,by simp [hl],same_upd (sm.trans s4) hD,upd_same,r4⟩
 ·have ei:i=xs.length:=by omega
  subst ei
  exact .inl ⟨⟨xs,sm.seq q1,Nat.le_refl _⟩,hd ys H2 sm e hl r⟩
end L2
namespace L2
open PySem PySem.Spec PyProof.Rows PySem.W Gc
end L2
set_option maxHeartbeats 4000000
namespace L2
open PySem PySem.Spec PyProof.Rows PySem.W Gc
theorem ints_of:∀ {ns:List Int}{us:List Value},Vals (ns.map V.int) us->IntsAre us ns
 | [],us,r=>by cases r;exact .nil
 | n::ns,us,r=>by
  cases r with
  | cons r1 r2 =>
   obtain⟨t,rfl⟩:=r1
   exact .cons n t (ints_of r2)
theorem ints_to:∀ {ns:List Int}{us:List Value},IntsAre us ns->Vals (ns.map V.int) us
 | _,_,.nil=>.nil
 | _,_,.cons n t r=>.cons ⟨t,rfl⟩ (ints_to r)
theorem call_sortedI {X:Cx}:CallR X (.builtin "sorted") (λ xs H Q=>∃ (p:Addr) (ns:List Int),xs = [.ref p]/\SqL X.K H p (ns.map V.int)/\ns.length<64 /\
  ∀ (D:Addr) (ms:List Int),H D=none->ms.Perm ns->ms.Pairwise (·<=·)->Q (.ref D) (upd H D (.lst (ms.map V.int)))):=by
 intro pins s σ H xs us Q I r h
 obtain⟨p,ns,rfl,hq,h64,q⟩:=h
 obtain⟨u,rfl,rx⟩:=vals1 r
 cases rx
 obtain⟨its,rv,pl,hz⟩:=I.list hq
 have li:its.length=ns.length:=by rw[<-rv.length,List.length_map]
 refine sorted_ints pl.isList (ints_of rv) (by omega) λ out ms a1 a2 a3=>?_
 obtain⟨e,he⟩:=sortedAll_at s.heap its out
 have hD:H (s.heap.objs.size+1)=none:=I.hok.fresh (Nat.le_succ _)
 refine⟨.ref (s.heap.objs.size+1),_,I.laid (t':=s.toks) (λ _ _=>sortedAll_old) (Nat.le_succ _) (show ObjOk X.prog X.w _ _ _ (.lst (ms.map V.int)) from ⟨?_,out.toList,e,ints_to a1,?_⟩),rfl,q _ ms hD a2 a3⟩
 ·rw[List.length_map,a2.length_eq,sizeLine_eq];omega
 ·exact he
section
variable {prog:Program}{w:World}{A:Around}{E:Value->Shared->Prop}{s:Shared}
end
section
variable {X:Cx}{a b c d:Expr}{ta tb tc td:TE}{pos:Pos}
end
end L2
set_option maxHeartbeats 4000000
namespace L2
open PySem PySem.Spec PyProof.Rows PySem.W Gc
section
variable {X:Cx}
end
end L2
set_option maxHeartbeats 4000000
namespace L2
open PySem PySem.Spec PyProof.Rows PySem.W Gc
section
end
section
variable {prog:Program}{w:World}{A:Around}{E:Value->Shared->Prop}{s:Shared}
end
section
variable {prog:Program}{w:World}{A:Around}{E:Value->Shared->Prop}{s:Shared}
end
end L2
set_option maxHeartbeats 4000000
namespace L2
open PySem PySem.Spec PyProof.Rows
theorem compLoop_ifsX {prog:Program}{w:World}{A:Around}{R:Result->Shared->Prop}{s:Shared}{elt tg iter:Expr}{ifs:List Expr}{scope:Scope}{pos:Pos}{it acc:Value}{env:Env} (Iv:Nat->Shared->Prop)
  (turn:∀ k s,Iv k s->wpAny (model prog w) A (pyNext it) (λ r s1=>match r with
   | none=>R (.ok .next) s1
   | some v=>wpAny (model prog w) A (letOwnedTupleGo tg it v) (λ _ s2=>wpAny (model prog w) A (assign tg env v) (λ _ s3=>wpAny (model prog w) A (testsOf ifs env) (λ b s4=>if b=true then
     wpAny (model prog w) A (eval elt env) (λ y s5=>wpAny (model prog w) A (call (.builtin "list.append") [acc,y]) (λ _ s6=>∃ m,m<k/\Iv m s6) (λ _ _=>False) s5) (notedBy (model prog w) A env λ e s'=>R (.error e) s') s4
     else ∃ m,m<k/\Iv m s4) (λ _ _=>False) s3) (λ _ _=>False) s2) (λ _ _=>False) s1) (λ _ _=>False) s)
  (k:Nat) (h:Iv k s):codeAny (model prog w) A (.compLoop (.ListComp elt [⟨tg,iter,ifs,0⟩] scope pos) 0 it acc env) R s:=by
 refine codeAny_loop rfl Iv (λ k s hI=>?_) k h
 show wpAny _ _ ((compTurn (.ListComp elt [⟨tg,iter,ifs,0⟩] scope pos) 0 it acc env).onRaise (λ e=>do noteFrame e env;theTreesLotGoes e)) _ _ s
 refine wpAny_noted ?_
 rw[compTurn_ifs]
 refine wpAny_bind (wpAny_standAt (wpAny_bind (wpAny_mono (turn k s hI) (λ r s1 h1=>?_) λ _ _ f=>f.elim)))
 cases r with
 | none=>exact wpAny_pure h1
 | some v =>
  refine wpAny_bind (wpAny_mono h1 (λ _ s2 h2=>wpAny_bind (wpAny_mono h2 (λ _ s3 h3=>wpAny_bind (wpAny_mono h3 (λ b s4 h4=>?_) λ _ _ f=>f.elim)) λ _ _ f=>f.elim)) λ _ _ f=>f.elim)
  cases b with
  | true =>
   rw[if_pos rfl] at h4 ⊢
   exact wpAny_bind (wpAny_mono h4 (λ y s5 h5=>wpAny_bind (wpAny_mono h5 (λ _ s6 h6=>wpAny_pure ⟨rfl,h6⟩) λ _ _ f=>f.elim)) λ _ _ f=>f)
  | false =>
   rw[if_neg Bool.false_ne_true] at h4 ⊢
   exact wpAny_pure ⟨rfl,h4⟩
noncomputable def postX (M:Model) (A:Around) (E:Value->Shared->Prop) (Q:Value->Shared->Prop) (acc:Value) (cenv:Env):Result->Shared->Prop
 | .ok _,s'=>∃ m,s'.heap.Ns cenv.locals m/\∀ h',Heap.SameBut cenv.locals s'.heap h'->Q acc {s' with heap:=h'}
 | .error x,s'=>∃ m,s'.heap.Ns cenv.locals m/\∀ h',Heap.SameBut cenv.locals s'.heap h'->wpAny M A (passOn "comprehension.variables-let-go" x cenv:Sem Value) (λ _ _=>False) E {s' with heap:=h'}
theorem comp_freeX {M:Model}{A:Around}{E:Value->Shared->Prop}{s:Shared}{env:Env}{e:Expr}{scope:Scope}{pos:Pos}{newAcc first:Sem Value}{g:Comprehension}{gs:List Comprehension}{cl:List (Str×Addr)}{Q:Value->Shared->Prop}
  (hcl:clausesOf e=g::gs) (hs:∀ x,foldedSetIterable g.iter env x=pure x) (hclos:closureFor scope env=pure cl)
  (hkind:scope.kind=.function) (hnames:∀ x∈scope.names,x.2=.local->scope.names.lookup x.1=some .local)
  (h:wpAny M A first (λ x s₁=>wpAny M A (pyIter x) (λ it s₂=>wpAny M A newAcc (λ acc s₃ =>
   wpAny M A (newFunctionEnv scope env.globals cl [] env.qual none .none (some env)) (λ cenv s₄ =>
    codeAny M A (.compStart e 0 it acc {cenv with scope:=relabel scope env}) (postX M A E Q acc {cenv with scope:=relabel scope env}) s₄) E s₃) E s₂) E s₁) E s) :
  wpAny M A (comprehension e scope env pos newAcc false first none) Q E s:=by
 unfold comprehension
 rw[hclos,hcl]
 have same:∀ {α:Type}{m:Sem α}{P P':α->Shared->Prop}{t:Shared},wpAny M A m P E t->(∀ a t',P a t'->P' a t')->wpAny M A m P' E t:=λ h1 h2=>wpAny_mono h1 h2 λ _ _ y=>y
 refine wpAny_bind (same h λ x s₁ h₁=>wpAny_bind (wpAny_standAt (wpAny_bind (wpAny_of_eq (hs x) (wpAny_bind (wpAny_holding (same h₁ λ it s₂ h₂ =>
  wpAny_standIf (wpAny_bind (same h₂ λ acc s₃ h₃=>wpAny_bind (wpAny_pure (wpAny_bind (same h₃ λ cenv s₄ h₄=>?_))))))))))))
 dsimp only
 have hv:∀ x∈(scope.names.filter λ x=>(x.2 == .local || x.2 == .cell) && x.1 != (".0":Str)).reverse,x.2=.local ->
   Env.kindOf {cenv with scope:=relabel scope env} x.1=some .local:=λ x hx hl=>lookup_relabel_local (hnames x (List.mem_filter.mp (List.mem_reverse.mp hx)).1 hl)
 refine wpAny_holding (wpAny_bind (wpAny_attempt (wpAny_holding (wpAny_run (codeAny_mono h₄ λ r s' hr=>?_)))))
 cases r with
 | ok f =>
  obtain⟨m,hn,hr⟩:=hr
  exact wpAny_bind (wpAny_holding (wpAny_comp_letGo (cenv:={cenv with scope:=relabel scope env}) hkind _ s' m hv hn λ h' _ _ z=>wpAny_pure (hr h' z)))
 | error x =>
  obtain⟨m,hn,hr⟩:=hr
  exact wpAny_bind (wpAny_holding (wpAny_comp_letGo (cenv:={cenv with scope:=relabel scope env}) hkind _ s' m hv hn λ h' _ _ z=>wpAny_mono (hr h' z) (λ _ _ f=>f.elim) λ _ _ y=>y))
section
variable {M:Model}{A:Around}{E:Value->Shared->Prop}{s:Shared}{B:Heap}{l:List Env}{e L:Addr}{cls a0:Value}
theorem setFlight_held {Q:Unit->Shared->Prop} (x:Heap.HeldW B l e cls a0 L s.heap) (h:∀ h',Heap.HeldW B l e cls a0 L h'->s.heap.UpToSlots h'->Q () {s with heap:=h'}) :
  wpAny M A (setFlight (.ref e) (some L)) Q E s:=by
 obtain⟨st,en,ff,oe,vs,T,oT,ts,he,hc,hd,h1,nT,Te,hT,hdT,h3⟩:=x
 have sz:=(Array.getElem?_eq_some_iff.mp h3).1
 have oth:∀ b,b≠T->(s.heap.update T (Obj.mapFields (·.setIfInBounds 3 ((some L).elim Value.none λ f=>rawInt f)))).get? b=s.heap.get? b:=λ b hb=>Heap.get?_update_other _ _ (Ne.symm hb)
 have nr:∀ b o,s.heap.get? b=some o->(∀ vs,o.data≠.fields vs)->b≠T:=λ b o hb hnf q=>by
  rw[q,hT] at hb;cases hb;exact hnf ts hdT
 unfold setFlight
 refine wpAny_bind (wpAny_field he hd h1 ?_)
 rw[if_pos (show (Value.ref T != Value.none)=true from by simp)]
 refine wpAny_setField hT hdT sz (h _ ⟨λ b o z=>(oth b λ q=>by rw[q,nT] at z;cases z).trans (st b o z),en,ff.of_keeps λ b o hb hnf=>⟨o,(oth b (nr b o hb hnf)).trans hb,rfl⟩,?_⟩ λ b o hb hnf=>⟨o.slots,(oth b (nr b o hb hnf)).trans hb⟩)
 exact⟨oe,vs,T,_,_,(oth e (Ne.symm Te)).trans he,hc,hd,h1,nT,Te,Heap.get?_update_self _ hT (Obj.isFreed_of_fields (Obj.data_mapFields hdT _)),Obj.data_mapFields hdT _,by simp [sz]⟩
theorem pass_held {α:Type}{what:String}{cenv:Env}{Q:α->Shared->Prop} (hf:cenv.frame=some L) (x:Heap.HeldW B l e cls a0 L s.heap) (h:∀ h',Heap.HeldW B l e cls a0 L h'->s.heap.UpToSlots h'->E (.ref e) {s with heap:=h'}) :
  wpAny M A (passOn what (.ref e) cenv:Sem α) Q E s:=by
 have y:=x
 obtain⟨st,en,ff,oe,vs,T,oT,ts,he,hc,hd,h1,nT,Te,hT,hdT,h3⟩:=y
 unfold PySem.passOn
 refine wpAny_bind (wpAny_field he hd h1 ?_)
 rw[if_neg (show ¬ ((Value.ref T == Value.none)=true) from by simp),hf]
 exact wpAny_bind (setFlight_held x λ h' y up=>wpAny_throw (h h' y up))
theorem leave_held {env:Env}{outer:List Env}{Q:Unit->Shared->Prop} (hf:env.frame=some L) (x:Heap.HeldW B (env::outer) e cls a0 L s.heap)
  (h:∀ h',Heap.FlyingW B outer e cls a0 h'->s.heap.UpToSlots h'->Q () {s with heap:=h'}):wpAny M A (leaving env (.ref e)) Q E s:=by
 unfold leaving
 refine wpAny_bind (wpAny_noteFrame_againW hf x.2.2.2 (wpAny_landsW x λ h' fl up=>?_))
 obtain⟨k1,k2,⟨_,_,k3⟩,k4⟩:=fl
 exact h h' ⟨k1,k2,k3,k4⟩ up
end
theorem funFrames_but {h h' B:Heap}{C:Addr} (k:Heap.SameBut C h h'):∀ {l:List Env},C ∉ frs l->h.FunFrames B l->h'.FunFrames B l
 | [],_,_=>trivial
 | env::l,hC,⟨hk,⟨L,o,hf,hn,ho,hd⟩,hr⟩=>by
  have e1:frs (env::l)=L::frs l:=by unfold frs;rw[List.filterMap_cons,hf]
  rw[e1] at hC
  exact⟨hk,⟨L,o,hf,hn,(k.2 L λ z=>hC (by simp [z])).trans ho,hd⟩,funFrames_but k (λ z=>hC (by simp [z])) hr⟩
theorem held_but {h h' B:Heap}{C e L:Addr}{l:List Env}{cls a0:Value}{m:Str->Option Value} (k:Heap.SameBut C h h') (hC:C ∉ frs l) (hn:h.Ns C m) (x:Heap.HeldW B l e cls a0 L h) :
  Heap.HeldW (PySem.W.hideAll B [C]) l e cls a0 L h':=by
 have x':=PySem.W.heldW_base (base:=PySem.W.hideAll B [C]) (λ b o q=>PySem.W.of_hideAll _ q) x
 obtain⟨st,en,ff,oe,vs,T,oT,ts,he,hc,hd,h1,nT,Te,hT,hdT,h3⟩:=x'
 obtain⟨o,es,ep,ho,od,_⟩:=hn
 have nC:∀ b u ws,h.get? b=some u->u.data=.fields ws->b≠C:=λ b u ws q d z=>by
  rw[z,ho] at q;cases q;rw[od] at d;cases d
 refine⟨λ b u q=>(k.2 b λ z=>?_).trans (st b u q),en,funFrames_but k hC ff,oe,vs,T,oT,ts,(k.2 e (nC e oe vs he hd)).trans he,hc,hd,h1,nT,Te,(k.2 T (nC T oT ts hT hdT)).trans hT,hdT,h3⟩
 rw[z,PySem.W.hideAll_none [C] (by simp)] at q
 cases q
section
variable {X:Cx}{E:XK}{N':List Str}{scope:Scope}{cl:List (Str×Addr)}{pins0:List (Addr×Obj)}{σ0:St}{H3:Hp}{s3:Shared}{fp:List Addr}{Q:Value->Shared->Prop}{acc:Value}
theorem comp_pass (dx:DefCx X) (hxe:∀ e s',wpAny (model X.prog X.w) X.A (leaving X.env e) (λ _ s2=>CXX X.prog X.w X.outer X.H₀ X.s₀ E e s2) (λ e' s2=>CXX X.prog X.w X.outer X.H₀ X.s₀ E e' s2) s'->X.xe e s')
  (I3:Inv X pins0 σ0 H3 s3) (hfp:∀ b∈fp,FpOk X pins0 H3 b) {C:Addr} (hC:C=s3.heap.objs.size) :
  Passes (CXX X.prog X.w) ((cxComp X N' scope cl C s3 H3 fp).wish (notedBy (model X.prog X.w) X.A (compEnvC scope cl C X.env) λ e s'=>postX (model X.prog X.w) X.A X.xe Q acc (compEnvC scope cl C X.env) (.error e) s')) E:=by
 intro pins σ H s e s' I h
 obtain⟨a,cls,H',rfl,os,bare,un,hok,⟨B,t,fw,ne,hn,kB⟩,q⟩:=h
 have fl:X.env.frame=some X.env.locals:=dx.fr
 have nofp:∀ b o,X.s₀.heap.get? b=some o->b ∉ fp:=λ b o e1 z=>by
  rcases (hfp b z).2.2.2.1 with y | y
  ·rw[dx.ex] at y;cases y
  ·exact absurd (Nat.lt_of_lt_of_le (Heap.lt_size e1) y) (Nat.lt_irrefl _)
 have thr:∀ b o,X.s₀.heap.get? b=some o->∃ o',s.heap.get? b=some o':=λ b o e1=>by
  obtain⟨o1,e2⟩:=I3.base.there b o e1 (by rw[dx.ex];simp)
  exact I.base.there b o1 e2 (nofp b o e1)
 have I1:Inv ((cxComp X N' scope cl C s3 H3 fp).wish (notedBy (model X.prog X.w) X.A (compEnvC scope cl C X.env) λ e s'=>postX (model X.prog X.w) X.A X.xe Q acc (compEnvC scope cl C X.env) (.error e) s')) pins σ H' s' :=
  I.call' (ch:=[]) os un hok bare (λ b z=>absurd z (by simp))
 have sf:∀ b∈frs X.stack,H' b=none:=I1.stkFree
 have fw':Heap.FlyingW B (X.env::X.outer) a cls (.ref t) s'.heap:=by rw[<-dx.st];exact fw
 show wpAny (model X.prog X.w) X.A (noteFrame (.ref a) X.env) _ _ s'
 refine wpAny_looks_onW (L:=X.env.locals) (by rw[I3.ok.frames,dx.st]) fl fw' λ h1 hw up=>?_
 have hw':Heap.HeldW B X.stack a cls (.ref t) X.env.locals h1:=by rw[dx.st];exact hw
 obtain⟨un1,hok1⟩:=fly_keeps (h5:=h1) un hok kB fw.2.2.1 (λ b hb=>hb) (λ b hb hb'=>absurd hb hb') sf hw.1 up
 have I2:Inv ((cxComp X N' scope cl C s3 H3 fp).wish (notedBy (model X.prog X.w) X.A (compEnvC scope cl C X.env) λ e s'=>postX (model X.prog X.w) X.A X.xe Q acc (compEnvC scope cl C X.env) (.error e) s')) pins σ H' {s' with heap:=h1} :=
  I.call' (s':={s' with heap:=h1}) (ch:=[]) os un1 hok1 bare (λ b z=>absurd z (by simp))
 obtain⟨m,ns,_⟩:=id I2.loc
 have ns':h1.Ns C m:=ns
 have u2:Un (frs X.stack) fp H3 H' s3.heap h1:=I2.base
 have fC:H' C=none:=I2.free
 have I4:Inv X pins0 σ0 H' {s' with heap:=h1}:=I3.call' (s':={s' with heap:=h1}) (ch:=fp) I2.os u2 I2.hok I2.bare (λ b hb=>⟨(hfp b hb).2.2.2.1,(hfp b hb).2.1,(hfp b hb).2.2.2.2.1,(hfp b hb).2.2.2.2.2⟩)
 have okC:FpOk X pins0 H' C:=I3.fpOk (Nat.le_of_eq hC.symm) fC
 have nC:C ∉ frs X.stack:=λ z=>by
  rcases List.mem_cons.mp (I4.stkSub C z) with y | y
  ·exact okC.2.1 y
  ·exact okC.2.2.1 y
 refine⟨m,ns',λ h2 sb=>?_⟩
 have I5:Inv X pins0 σ0 H' {s' with heap:=h2}:=Inv.turned (s:={s' with heap:=h1}) (it:=C) (t':=s'.toks) I4 (λ b o hb e=>(sb.2 b hb).trans e) okC.1 okC.2.1 okC.2.2.2.1 okC.2.2.2.2.1 okC.2.2.2.2.2
 refine pass_held (L:=X.env.locals) fl (held_but sb nC ns' hw') λ h3 hw3 up3=>hxe _ _ ?_
 have hw3':Heap.HeldW (PySem.W.hideAll B [C]) (X.env::X.outer) a cls (.ref t) X.env.locals h3:=by rw[<-dx.st];exact hw3
 refine leave_held (s:={s' with heap:=h3}) fl hw3' λ h4 fw4 up4=>?_
 have n1:X.s₀.heap.get? a=none:=by
  cases z:X.s₀.heap.get? a with
  | none=>rfl
  | some o =>
   obtain⟨o',y⟩:=thr a o z
   rw[ne] at y;cases y
 refine fly_out (s:={s' with heap:=h2}) dx I5 (λ b o e1 hz hb=>?_) fw4 (up3.trans up4) n1 hn q
 have bC:b≠C:=λ z=>by
  subst z
  rcases hz with ⟨o',y⟩ | ⟨u,y⟩
  ·rcases okC.2.2.2.1 with w | w
   ·rw[dx.ex] at w;cases w
   ·exact absurd (Nat.lt_of_lt_of_le (Heap.lt_size y) w) (Nat.lt_irrefl _)
  ·rw[fC] at y;cases y
 have e2:h1.get? b=some o:=(sb.2 b bC).symm.trans e1
 have hz':(∃ o',s.heap.get? b=some o')∨∃ u,H' b=some u:=hz.imp (λ ⟨o',y⟩=>thr b o' y) id
 have th:∃ o2,s'.heap.get? b=some o2:=by
  rcases hz' with ⟨o',y⟩ | ⟨u,y⟩
  ·exact un.there b o' y (by simp)
  ·exact (hok b u y).there
 obtain⟨o2,e3⟩:=th
 have e4:=kB b o2 e3 hz' hb
 have e5:=hw.1 b o2 e4
 rw[e2] at e5
 cases e5
 exact PySem.W.hideAll_get [C] e4 (by simpa using bC)
end
section
variable {X:Cx}{E:XK}{elt iter tg:Expr}{ifs:List Expr}{xs:List Str}{pos:Pos}{scope:Scope}{cl:List (Str×Addr)}{ts:List (Str×Nat)}{wi:TI}{te:TE}{g:TG}{tt:TT}
theorem pe_compX (dx:DefCx X) (hxe:∀ e s',wpAny (model X.prog X.w) X.A (leaving X.env e) (λ _ s2=>CXX X.prog X.w X.outer X.H₀ X.s₀ E e s2) (λ e' s2=>CXX X.prog X.w X.outer X.H₀ X.s₀ E e' s2) s'->X.xe e s')
  (hc:X.calm=true) (O:CompOkL X xs ts scope cl) (hi:PI X tg iter wi) (hg:∀ C s3 H3 fp,PG (cxComp X (nmsL xs ts) scope cl C s3 H3 fp) tg g)
  (ht:∀ C s3 H3 fp,PIf (cxComp X (nmsL xs ts) scope cl C s3 H3 fp) ifs tt)
  (he:∀ C s3 H3 fp xe,Passes (CXX X.prog X.w) ((cxComp X (nmsL xs ts) scope cl C s3 H3 fp).wish xe) E->PE ((cxComp X (nmsL xs ts) scope cl C s3 H3 fp).wish xe) elt te)
  (hs:∀ x,foldedSetIterable iter X.env x=pure x:=by intro _;rfl):PE X (.ListComp elt [⟨tg,iter,ifs,0⟩] scope pos) (tCompG wi g tt xs.length (sltOf ts) te):=by
 intro pins s σ H Q I h
 rw[eval_ListComp]
 refine comp_freeX rfl hs O.clos O.kind O.locs' (thn (hi pins s σ H _ I h) λ v s1 h1=>thn h1 λ itv s2 h2=>?_)
 obtain⟨it,fp,tn,J,H2,rfl,I2,T,st2,f2,q⟩:=h2
 have hD:H2 s2.heap.objs.size=none:=I2.hok.fresh (Nat.le_refl _)
 obtain⟨W,⟨m0,w0⟩,turn⟩:=q s2.heap.objs.size hD
 refine wpAny_newObj_type ?_
 have I3:Inv X pins σ (upd H2 s2.heap.objs.size (.lst [])) {s2 with heap:=s2.heap.push {cls:=.type "list",dict:=none,data:=.seq ([]:List Value).toArray}} :=
  I2.laid (a:=s2.heap.objs.size) (o:=.lst []) (t':=s2.toks) (λ b u e=>Heap.get?_push_of_some _ e) (Nat.le_refl _) ⟨Nat.zero_le _,[],0,.nil,Heap.get?_push_size _ rfl⟩
 generalize hs3:({s2 with heap:=s2.heap.push {cls:=.type "list",dict:=none,data:=.seq ([]:List Value).toArray}}:Shared)=s3 at I3
 have sz3:s3.heap.objs.size=s2.heap.objs.size+1:=by rw[<-hs3,Heap.size_push]
 have old3:∀ b u,s2.heap.get? b=some u->s3.heap.get? b=some u:=λ b u e=>by rw[<-hs3];exact Heap.get?_push_of_some _ e
 generalize hH3:upd H2 s2.heap.objs.size (.lst [])=H3 at I3 w0
 have fp2:∀ b∈fp,b<s2.heap.objs.size:=λ b hb=>by
  obtain⟨o,e,_⟩:=T.obj _ _ st2 b hb
  exact Heap.lt_size e
 have hfp:∀ b∈fp,FpOk X pins H3 b/\b<s3.heap.objs.size:=λ b hb=>by
  refine⟨⟨?_,(f2 b hb).2⟩,by rw[sz3];exact Nat.lt_succ_of_lt (fp2 b hb)⟩
  rw[<-hH3,upd_ne (Nat.ne_of_lt (fp2 b hb))]
  exact (f2 b hb).1
 refine wpAny_newFunctionEnv O.nocell' (by intro y hy;simp at hy) (λ h₁ hns₁ hsb₁=>?_) O.kind
 have old:∀ b o,s3.heap.get? b=some o->h₁.get? b=some o:=λ b o e=>hsb₁.extBut b o (Nat.ne_of_lt (Heap.lt_size e)) (Heap.get?_push_of_some _ e)
 have start:Inv (cxComp X (nmsL xs ts) scope cl s3.heap.objs.size s3 H3 fp) [] (List.replicate xs.length none++taken σ (sltOf ts)) H3 {s3 with heap:=h₁,toks:=s3.toks+0}:=compL_start O I3 hfp hns₁ old
 have st4:tn 0 h₁:=T.keep _ _ _ st2 λ b hb o e=>old b o (old3 b o e)
 have okX:∀ {H':Hp},(∀ b∈fp,H' b=none)->∀ b∈fp,FpOk (cxComp X (nmsL xs ts) scope cl s3.heap.objs.size s3 H3 fp) [] H' b:=λ hn b hb=>by
  refine⟨hn b hb,Nat.ne_of_lt (hfp b hb).2,λ z=>?_,.inl hb,λ y c e=>(f2 b hb).2.2.2.2.1 y c (O.sub y c e),λ p hp=>absurd (show p∈([]:List (Addr×Obj)) from hp) (by simp)⟩
  rcases List.mem_cons.mp (I3.stkSub b z) with e | e
  ·exact (f2 b hb).2.1 e
  ·exact (f2 b hb).2.2.1 e
 have loop:∀ s₄:Shared,s₄={s3 with heap:=h₁,toks:=s3.toks+0} ->
   codeAny (model X.prog X.w) X.A (.compLoop (.ListComp elt [⟨tg,iter,ifs,0⟩] scope pos) 0 (.ref it) (.ref s2.heap.objs.size) (compEnvC scope cl s3.heap.objs.size X.env))
    (postX (model X.prog X.w) X.A X.xe (EP X pins σ Q) (.ref s2.heap.objs.size) (compEnvC scope cl s3.heap.objs.size X.env)) s₄:=by
  rintro s₄ rfl
  refine compLoop_ifsX (λ n s'=>∃ i ys σ0 H',σ0.length=xs.length/\Inv (cxComp X (nmsL xs ts) scope cl s3.heap.objs.size s3 H3 fp) [] (σ0++taken σ (sltOf ts)) H' s'/\tn i s'.heap/\(∀ b∈fp,H' b=none)/\W i n ys H') ?_ m0
   ⟨0,[],_,H3,by simp,start,st4,λ b hb=>(hfp b hb).1.1,w0⟩
  rintro n s5 ⟨i,ys,σ0,H5,l0,I5,st5,fr5,w5⟩
  rcases turn i n ys H5 w5 with ⟨stop,qn⟩ | ⟨go,step⟩
  ·refine thn (T.done (cxComp X (nmsL xs ts) scope cl s3.heap.objs.size s3 H3 fp) rfl rfl rfl hc i [] s5 (σ0++taken σ (sltOf ts)) H5 _ I5 (okX fr5) st5 stop) λ r s6 ⟨hr,I6⟩=>?_
   subst hr
   obtain⟨m,hn,_⟩:=id I6.loc
   have u6:Un (frs X.stack) fp H3 H5 s3.heap s6.heap:=I6.base
   have fC:H5 s3.heap.objs.size=none:=I6.free
   have J6:Inv X pins σ H5 s6:=I3.call' (s':=s6) (ch:=fp) I6.os u6 I6.hok I6.bare (λ b hb=>⟨(f2 b hb).2.2.2.1,(f2 b hb).2.1,(f2 b hb).2.2.2.2.1,(f2 b hb).2.2.2.2.2⟩)
   have oC:FpOk X pins H5 s3.heap.objs.size:=I3.fpOk (Nat.le_refl _) fC
   exact⟨m,hn,λ h' sb=>⟨.ref s2.heap.objs.size,H5,J6.turned (it:=s3.heap.objs.size) (t':=s6.toks) (λ b o hb e=>(sb.2 b hb).trans e) oC.1 oC.2.1 oC.2.2.2.1 oC.2.2.2.2.1 oC.2.2.2.2.2,rfl,qn⟩⟩
  ·refine thn (T.item (cxComp X (nmsL xs ts) scope cl s3.heap.objs.size s3 H3 fp) rfl rfl rfl hc i [] s5 (σ0++taken σ (sltOf ts)) H5 _ I5 (okX fr5) st5 go) λ r s6 ⟨u,hr,h6⟩=>?_
   subst hr
   refine thn h6 λ _ s7 ⟨z,H7,I7,rz,yz,st7,fr7⟩=>?_
   have I7':=I7.pinned (okX fr7) (T.obj _ _ st7)
   refine thn (hg s3.heap.objs.size s3 H3 fp _ s7 _ H7 z u _ I7' rz (step z H7 σ0 yz l0)) λ _ s8 ⟨σ8,H8,I8,⟨σ1,l1,e8⟩,q8⟩=>?_
   subst e8
   refine thn (ht s3.heap.objs.size s3 H3 fp _ s8 _ H8 _ I8 q8) λ b s9 ⟨H9,I9,q9⟩=>?_
   cases b with
   | true =>
    rw[if_pos rfl] at q9 ⊢
    have hx:=comp_pass (E:=E) (N':=nmsL xs ts) (scope:=scope) (cl:=cl) (Q:=EP X pins σ Q) (acc:=.ref s2.heap.objs.size) dx hxe I3 (λ b hb=>(hfp b hb).1) rfl
    refine wpAny_mono (he s3.heap.objs.size s3 H3 fp _ hx _ s9 _ H9 _ (I9.wish _) q9) (λ y s10 ⟨vy,H10,I10',ry,hD9,hl9,m',hm',w9⟩=>?_) λ _ _ z=>z
    have I10:=I10'.unwish
    refine thn (mt_append (X:=cxComp X (nmsL xs ts) scope cl s3.heap.objs.size s3 H3 fp) _ s10 _ H10 (.ref s2.heap.objs.size) [vy] (.ref s2.heap.objs.size) [y] (λ _ H11=>H11=upd H10 s2.heap.objs.size (.lst (ys++[vy]))) I10 rfl (.cons ry .nil) ⟨_,ys,vy,rfl,rfl,hD9,hl9,rfl⟩) λ _ s11 ⟨_,H11,I11,_,e11⟩=>?_
    subst e11
    refine⟨m',hm',i+1,ys++[vy],σ1,_,l1,I11.unpinned,T.keep _ _ _ st7 λ b hb o e=>(I11.pin (b,o) (List.mem_append_right _ (List.mem_append_right _ (mem_pinsAt hb e)))).1,λ b hb=>?_,w9⟩
    obtain⟨o,e,d⟩:=T.obj _ _ st7 b hb
    exact (I11.pin (b,o) (List.mem_append_right _ (List.mem_append_right _ (mem_pinsAt hb e)))).2.1
   | false =>
    rw[if_neg Bool.false_ne_true] at q9 ⊢
    obtain⟨m',hm',w9⟩:=q9
    refine⟨m',hm',i+1,ys,σ1,_,l1,I9.unpinned,T.keep _ _ _ st7 λ b hb o e=>(I9.pin (b,o) (List.mem_append_right _ (List.mem_append_right _ (mem_pinsAt hb e)))).1,λ b hb=>?_,w9⟩
    obtain⟨o,e,d⟩:=T.obj _ _ st7 b hb
    exact (I9.pin (b,o) (List.mem_append_right _ (List.mem_append_right _ (mem_pinsAt hb e)))).2.1
 have hst:=codeAny_compStart_list (loop _ rfl) (T.self X.A 0 _ _ _ st4 (loop _ rfl))
 exact hst
end
theorem Inv.track {X:Cx}{pins:List (Addr×Obj)}{σ:St}{H:Hp}{s:Shared}{a:Addr}{o:HO} (I:Inv X pins σ H s) (hn:X.s₀.heap.get? a=none) (hH:H a=none) (hL:a≠X.env.locals) (hc:∀ x c,X.env.cells.lookup x=some c->c≠a)
  (hp:∀ p∈X.pn++pins,p.1≠a) (new:ObjOk X.prog X.w (upd H a o) s.heap a o):Inv X pins σ (upd H a o) s:=by
 have ne:∀ b u,H b=some u->b≠a:=λ b u e z=>by rw[z,hH] at e;cases e
 have b:=I.base
 refine⟨I.ok,I.os,I.bare,⟨b.keep,b.slot,λ c u e1 e2 e3=>?_,b.there,λ c xs e=>?_,λ c u v e=>?_,λ c ps e=>?_⟩,I.loc,I.cell,?_,λ x c e=>?_,λ p hq=>?_,λ c u e=>?_,I.len⟩
 ·rw[upd_ne (λ z=>by rw[z,hn] at e1;cases e1)]
  exact b.free c u e1 e2 e3
 ·have y:=b.tups c xs e
  rw[upd_ne (ne _ _ y)];exact y
 ·have y:=b.frzs c u v e
  rw[upd_ne (ne _ _ y)];exact y
 ·obtain⟨more,y⟩:=b.tbls c ps e
  exact⟨more,by rw[upd_ne (ne _ _ y)];exact y⟩
 ·rw[upd_ne (Ne.symm hL)];exact I.free
 ·rw[upd_ne (hc x c e)];exact I.freeC x c e
 ·obtain⟨y1,y2,y3⟩:=I.pin p hq
  exact⟨y1,by rw[upd_ne (hp p hq)];exact y2,y3⟩
 ·by_cases z:c=a
  ·subst z
   rw[upd_same] at e
   cases e
   exact new
  ·rw[upd_ne z] at e
   refine (I.hok c u e).stay (λ _ _ _ y=>y) (λ d y=>?_) (λ d xs y=>?_)
   ·rw[upd_ne (ne _ _ y)];exact y
   ·rw[upd_ne (ne _ _ y)];exact y
section
open PySem.W
variable {X:Cx}
end
theorem comp_tupRG {K:PySem.W.Frag}{a:Addr}{xs:List V}{te:TE}{st:St}{H1:Hp}{Q:VK}{D:Addr} (R:Nat->List V->Hp->Prop) (hD:H1 D=none) (q1:SqT K H1 a xs) (hn:xs.length<=sizeLine) (h0:R 0 [] (upd H1 D (.lst [])))
  (hs:∀ (i:Nat) (x:V) (ys:List V) (H2:Hp) (k:VK),xs[i]? = some x->Same H1 H2->H2 D=some (.lst ys)->ys.length=i->R i ys H2->(∀ y H4,Same H2 H4->R (i+1) (ys++[y]) (upd H4 D (.lst (ys++[y])))->k y H4)->te (some x::st) H2 k)
  (hd:∀ ys H2,Same H1 H2->H2 D=some (.lst ys)->ys.length=xs.length->R xs.length ys H2->Q (.ref D) H2):CompG (Itt K a) (gName 0) tYes te 1 st D H1 Q:=by
 refine⟨λ i m ys H2=>m=xs.length-i/\i<=xs.length/\ys.length=i/\Same H1 H2/\H2 D=some (.lst ys)/\R i ys H2,⟨xs.length,by simp,Nat.zero_le _,rfl,same_upd (Same.refl H1) hD,upd_same,h0⟩,?_⟩
 rintro i m ys H2 ⟨rfl,hi,hl,sm,e,r⟩
 by_cases hlt:i<xs.length
 ·have ex:xs[i]? = some xs[i]:=List.getElem?_eq_getElem hlt
  refine .inr ⟨⟨xs,_,sm.tup q1,ex⟩,?_⟩
  rintro x H3 σ0 ⟨rfl,hx⟩ l0
  have hx':=hx xs (sm.tup q1)
  obtain⟨a',rfl⟩:∃ a,σ0 = [a]:=by
   match σ0,l0 with
   | [a],_=>exact⟨a,rfl⟩
  refine⟨⟨[some x],rfl,rfl⟩,?_⟩
  exact hs i x ys _ _ hx' sm e hl r λ y H4 s4 r4=>⟨s4 _ _ e,by omega,xs.length-(i+1),by omega,rfl,hlt,by simp [hl],same_upd (sm.trans s4) hD,upd_same,r4⟩
 ·have ei:i=xs.length:=by omega
  subst ei
  exact .inl ⟨⟨xs,sm.tup q1,Nat.le_refl _⟩,hd ys H2 sm e hl r⟩
noncomputable abbrev SeqAt2 (H:Hp) (a:Addr) (xs:List V):Prop:=H a=some (.lst xs)∨H a=some (.tup xs)
theorem SeqAt2.keep {H H':Hp}{a:Addr}{xs:List V} (h:SeqAt2 H a xs) (s:Same H H'):SeqAt2 H' a xs:=h.imp (s _ _) (s _ _)
theorem SeqAt2.sq {K:PySem.W.Frag}{H:Hp}{a:Addr}{xs:List V} (h:SeqAt2 H a xs):SqL K H a xs∨SqT K H a xs:=h.imp SqL.of SqT.of
theorem SeqAt2.ix {K:PySem.W.Frag}{H:Hp}{a:Addr}{xs:List V}{i:Int}{v:V}{Q:VK} (h:SeqAt2 H a xs) (e:atI xs i=some v) (q:Q v H):rIx K (.ref a) (.int i) H Q:=by
 rcases h with h | h
 ·exact .inl ⟨a,xs,i,v,rfl,rfl,SqL.of h,e,q⟩
 ·exact .inr (.inl ⟨a,xs,i,v,rfl,rfl,SqT.of h,e,q⟩)
theorem seq_comp {K:PySem.W.Frag}{a:Addr}{xs:List V}{te:TE}{st:St}{H1:Hp}{Q:VK} (hq:SeqAt2 H1 a xs) (hn:xs.length<=sizeLine) (R:Addr->Nat->List V->Hp->Prop)
  (h0:∀ D,H1 D=none->R D 0 [] (upd H1 D (.lst [])))
  (hs:∀ (D:Addr) (i:Nat) (x:V) (ys:List V) (H2:Hp) (k:VK),H1 D=none->xs[i]? = some x->Same H1 H2->H2 D=some (.lst ys)->ys.length=i->R D i ys H2->(∀ y H4,Same H2 H4->R D (i+1) (ys++[y]) (upd H4 D (.lst (ys++[y])))->k y H4)->te (some x::st) H2 k)
  (hd:∀ D ys H2,H1 D=none->Same H1 H2->H2 D=some (.lst ys)->ys.length=xs.length->R D xs.length ys H2->Q (.ref D) H2) :
  (SqL K H1 a xs/\∀ D,H1 D=none->CompG (Itl K a) (gName 0) tYes te 1 st D H1 Q)∨(SqT K H1 a xs/\∀ D,H1 D=none->CompG (Itt K a) (gName 0) tYes te 1 st D H1 Q):=by
 rcases hq with h | h
 ·exact .inl ⟨SqL.of h,λ D hD=>comp_listRG (R D) hD (SqL.of h) hn (h0 D hD) (λ i x ys H2 k a1 a2 a3 a4 a5=>hs D i x ys H2 k hD a1 a2 a3 a4 a5) λ ys H2=>hd D ys H2 hD⟩
 ·exact .inr ⟨SqT.of h,λ D hD=>comp_tupRG (R D) hD (SqT.of h) hn (h0 D hD) (λ i x ys H2 k a1 a2 a3 a4 a5=>hs D i x ys H2 k hD a1 a2 a3 a4 a5) λ ys H2=>hd D ys H2 hD⟩
theorem op_isB {X:Cx}:OpR X (compareOp .Is) (λ x y H Q=>∃ c d,x=.bl c/\y=.bl d/\Q (.bl (c == d)) H):=by
 intro pins s σ H x y v u Q I rx ry h
 obtain⟨c,d,rfl,rfl,q⟩:=h
 cases rx
 cases ry
 exact is_bool ⟨.bl _,H,I,rfl,q⟩
end L2
set_option maxHeartbeats 4000000
namespace L2
open PySem PySem.Spec PyProof.Rows PySem.W Gc
section
variable {prog:Program}{w:World}{A:Around}{E:Value->Shared->Prop}{s:Shared}
end
section
variable {X:Cx}
end
end L2
set_option maxHeartbeats 4000000
namespace L2
open PySem PySem.Spec PyProof.Rows
noncomputable def ET0 (K:PySem.W.Frag) (CS:Addr) (ts:Addr->Obj->TS) (D:Ends):St->XK:=λ σ cls _ H =>
 PySem.W.subIn K cls (.ref CS)=some true/\∀ e oe,H e=none->oe.cls=cls->ts e oe D σ H
noncomputable def tTry0 (K:PySem.W.Frag) (CS:Addr) (tb:(St->XK)->TS) (ts:Addr->Obj->TS):TS:=λ D σ H=>tb (ET0 K CS ts D) D σ H
theorem ps_try0 {X:Cx}{body:List Stmt}{b0:Stmt}{suite:List Stmt}{S:Str}{np hpos pos:Pos}{CS:Addr}{tb:(St->XK)->TS}{ts:Addr->Obj->TS} (dx:DefCx X)
  (hg:Gl X S) (hm:X.mg S=some (.ref CS)) (ca:Catch X.K CS)
  (hb:∀ (xe:Value->Shared->Prop) (pn:List (Addr×Obj)) (E:St->XK),PassesS (CXX X.prog X.w) (X.tried xe pn) E->PSs (X.tried xe pn) body (tb E))
  (hs:∀ (e:Addr) (oe:Obj),PSs (X.held e oe) (b0::suite) (ts e oe)) (hdb:(S == ("__debug__":Str))=false:=by decide) :
  PS X (.Try body [.ExceptHandler (some (.Name S np)) none (b0::suite) hpos] [] [] pos) (tTry0 X.K CS tb ts):=by
 intro pins s σ H D I h
 have pass:PassesS (CXX X.prog X.w) (X.tried (λ e s1=>wpAny (model X.prog X.w) X.A (noteFrame e X.env) (λ _ s2=>wpAny (model X.prog X.w) X.A (setFlight e none) (λ _ s3 =>
   wpAny (model X.prog X.w) X.A (handleBy e X.env [.ExceptHandler (some (.Name S np)) none (b0::suite) hpos]) (SP X pins D) X.xe s3) X.xe s2) X.xe s1) pins) (ET0 X.K CS ts D):=by
  intro pins' σ' H1 s1 e s' I' hx
  obtain⟨a,cls,H',rfl,os,bare,un,hok,⟨B,t,fw,ne,hn,kB⟩,hk,q⟩:=hx
  have J:Inv X pins σ' H1 s1:=I'.untried
  have hu:∀ b∈frs X.stack,H' b=none:=λ b z=>by
   obtain⟨_,o,e0,_⟩:=J.stack.mem z
   exact un.free b o e0 (J.stkFree b z) (by simp)
  have keep5:∀ h5:Heap,B.StaysIn h5->s'.heap.UpToSlots h5->Un (frs X.stack) [] H1 H' s1.heap h5/\HOk X.prog X.w H' h5:=λ h5 st up =>
   fly_keeps un hok kB fw.2.2.1 (λ _ z=>z) (λ b z nz=>absurd z nz) hu st up
  have inv5:∀ h5:Heap,B.StaysIn h5->s'.heap.UpToSlots h5->Inv X pins σ' H' {s' with heap:=h5}:=λ h5 st up =>
   J.call' (s':={s' with heap:=h5}) (ch:=[]) os (keep5 h5 st up).1 (keep5 h5 st up).2 bare (λ b z=>absurd z (by simp))
  have neL:a≠X.env.locals:=λ z=>by
   obtain⟨m,⟨o,_,_,ho,_⟩,_⟩:=J.loc
   rw[<-z,ne] at ho;cases ho
  have nfs:a ∉ X.fs:=λ z=>by
   obtain⟨_,o,e0,_⟩:=J.funs.mem z
   rw[ne] at e0;cases e0
  have fw':Heap.FlyingW B (X.env::X.outer) a cls (.ref t) s'.heap:=by rw[<-dx.st];exact fw
  show wpAny (model X.prog X.w) X.A (noteFrame (.ref a) X.env) _ X.xe s'
  refine wpAny_looks_onW (by rw[J.ok.frames,dx.st]) dx.fr fw' λ h4 held4 up4=>?_
  refine wpAny_landsW held4 λ h5 fl5 up5=>?_
  have up:=up4.trans up5
  have J5:=inv5 h5 fl5.1 up
  obtain⟨oe,vs,hoe,hoc,hod,_⟩:=fl5.first
  have K5:Inv (X.held a oe) pins σ' H' {s' with heap:=h5}:=J5.held hoe hn neL nfs (λ v z=>by rw[hod] at z;cases z)
  refine wpAny_handleBy_cons (codeAny_handlers_test (ld_glob K5 hg hm ?_ hdb)) (by intro z;cases z)
  refine exc_matches K5.kIn hoe ca (by rw[hoc];exact hk) ?_
  refine codeAny_handlers_suite ?_
  refine lands_againW fl5 λ h6 fl6 up6=>?_
  have J6:=inv5 h6 fl6.1 (up.trans up6)
  obtain⟨oe6,vs6,hoe6,hoc6,hod6,_⟩:=fl6.first
  have K6:Inv (X.held a oe6) pins σ' H' {s' with heap:=h6}:=J6.held hoe6 hn neL nfs (λ v z=>by rw[hod6] at z;cases z)
  refine wpAny_mono (hs a oe6 pins _ _ H' D K6 (q a oe6 hn hoc6)) (λ f s8 h8=>?_) (λ _ _ z=>z.elim)
  cases f with
  | next =>
   obtain⟨σ8,H8,I8,q8⟩:=h8
   exact⟨_,_,I8.unheld I.ok.hd,q8⟩
  | brk =>
   obtain⟨σ8,H8,I8,q8⟩:=h8
   exact⟨_,_,I8.unheld I.ok.hd,q8⟩
  | cont =>
   obtain⟨σ8,H8,I8,q8⟩:=h8
   exact⟨_,_,I8.unheld I.ok.hd,q8⟩
  | ret u =>
   obtain⟨v8,σ8,H8,I8,r8,q8⟩:=h8
   exact⟨_,_,_,I8.unheld I.ok.hd,r8,q8⟩
 refine wpAny_Try_except (wpAny_mono (hb _ pins _ pass [] s σ H D I.tried h) (λ f s1 hf=>?_) λ e s1 he=>he)
 cases f with
 | next =>
  obtain⟨σ',H',J,q⟩:=hf
  exact wpAny_execs_nil ⟨σ',H',J.untried,q⟩
 | brk =>
  obtain⟨σ',H',J,q⟩:=hf
  exact⟨σ',H',J.untried,q⟩
 | cont =>
  obtain⟨σ',H',J,q⟩:=hf
  exact⟨σ',H',J.untried,q⟩
 | ret u =>
  obtain⟨v,σ',H',J,r,q⟩:=hf
  exact⟨v,σ',H',J.untried,r,q⟩
end L2
set_option maxHeartbeats 4000000
namespace L2
open PySem PySem.Spec PyProof.Rows
noncomputable def Itd (hi:Int) (n:Nat):It:=⟨λ i _=>i<n,λ i H x H'=>H'=H/\x=.int (hi-i),λ i _=>n<=i⟩
theorem turn_down {P:Program}{w:World}{K:PySem.W.Frag}{tg:Expr} (it:Addr) (hi:Int) (n:Nat):Turn P w K tg (Itd hi n) [it] it (λ i h=>IsRangeIter h it (hi+(i:Nat)*(-1)) ((n:Int)-(i:Nat)) (-1)) where
 mem:=List.mem_singleton.mpr rfl
 obj:=λ i h st b hb=>by
  cases List.mem_singleton.mp hb
  exact⟨_,st,λ v z=>nomatch (show Data.fields _=Data.cell v from z)⟩
 keep:=λ i h h' st k=>k it (List.mem_singleton.mpr rfl) _ st
 item:=by
  intro X eP ew eK hc i pins s σ H E I hf st hg
  cases eP;cases ew;cases eK
  have ff:=hf it (List.mem_singleton.mpr rfl)
  have W:=Walks.range (prog:=X.prog) (w:=X.w) (I.ok.hd hc) it hi (-1) n
  refine W.item i s _ _ hg st λ v h' tk hv st' kk=>?_
  obtain⟨t,rfl⟩:=hv
  have J:Inv X pins σ H {s with heap:=h',toks:=tk}:=I.turned (λ b o hb e=>kk b o (λ m=>hb (List.mem_singleton.mp m)) e) ff.1 ff.2.1 ff.2.2.2.1 ff.2.2.2.2.1 ff.2.2.2.2.2
  have en:hi+(i:Nat)*(-1)=hi-(i:Nat):=by omega
  exact⟨_,rfl,go_of (s:={s with heap:=h',toks:=tk}) (n:="range_iterator") st' rfl rfl (by decide) ⟨.int (hi-i),H,J,⟨t,by rw[en]⟩,⟨rfl,rfl⟩,st',λ b hb=>(hf b hb).1⟩⟩
 done:=by
  intro X eP ew eK hc i pins s σ H E I hf st hg
  cases eP;cases ew;cases eK
  have ff:=hf it (List.mem_singleton.mpr rfl)
  have hn:n<=i:=hg
  exact wpAny_pyNext_range_end (I.ok.hd hc) st (by omega) λ h' eb=>⟨rfl,I.turned (t':=s.toks) (λ b o hb e=>eb b o hb e) ff.1 ff.2.1 ff.2.2.2.1 ff.2.2.2.2.1 ff.2.2.2.2.2⟩
 self:=λ _ _ _ _ _ st h=>wpAny_pyIter_rangeiter st h
theorem small_down {a b:Int} (h1:0<=a) (h2:a<2^62) (h3:-(2^62)<=b) (h4:b<2^62):Builtin.Range.small a b (-1)=true:=by
 unfold Builtin.Range.small Builtin.Range.rangeFitsLong
 rw[PySem.W.rangeSize_downNat,if_neg (by decide)]
 simp only[Bool.and_eq_true,Bool.or_eq_true,decide_eq_true_eq]
 have k:(2:Int)^62+2^62=2^63:=by decide
 have k0:(0:Int)<2^62:=by decide
 generalize (2:Int)^63=W at *
 generalize (2:Int)^62=V at *
 have:0<W:=by omega
 refine⟨⟨⟨⟨⟨by omega,by omega⟩,by omega,by omega⟩,by omega,by omega⟩,by omega,by omega⟩,.inr ⟨by omega,by omega⟩⟩
section
variable {X:Cx}{tg:Expr}
noncomputable def iRngD (ta:TA):TI:=λ σ H R=>ta σ H λ vs H1=>∃ i j:Int,vs = [.int i,.int j,.int (-1)]/\(0<=i/\i<2^62/\-(2^62)<=j/\j<2^62)/\R (Itd i (i-j).toNat) H1
theorem pi_range3 {a b c:Expr}{ta:TA}{p pos:Pos} (hg:Gl X "range") (hm:X.mg "range" = none) (ha:PA X [a,b,c] ta) (hs:starEach [a,b,c] X.env = [(false,eval a X.env),(false,eval b X.env),(false,eval c X.env)]:=by rfl) (hs2:starEach [b,c] X.env = [(false,eval b X.env),(false,eval c X.env)]:=by rfl) :
  PI X tg (.Call (.Name "range" p) [a,b,c] [] pos) (iRngD ta):=by
 intro pins s σ H R I h
 refine Call_ (ld_blt I hg hm boot_range (PyProof.Rows.callWith_type1 (thn (ha pos pins s σ H _ I h) λ us s1 ⟨vs,H1,I1,r1,q1⟩=>?_) (by rw[hs,hs2]) (by rw[hs2];rfl)))
 obtain⟨i,j,e,⟨q1,q2,q3,q4⟩,q⟩:=q1
 subst e
 cases r1 with
 | cons r rr =>
 cases rr with
 | cons r' rr =>
 cases rr with
 | cons r'' rr =>
 cases rr
 obtain⟨t,rfl⟩:=r
 obtain⟨t',rfl⟩:=r'
 obtain⟨t'',rfl⟩:=r''
 refine call_range_3 (by decide) ?_ (.inl rfl)
 refine wpAny_pyIter_range (IsRange.new ..) (small_down q1 q2 q3 q4) ?_
 have J:Inv X pins σ H1 {s1 with heap:=s1.heap.push {cls:=.type "range",data:=.fields #[.int i t,.int j t',.int (-1) t'']}}:=I1.kept (t':=s1.toks) λ b o e=>Heap.get?_push_of_some _ e
 refine⟨(s1.heap.push {cls:=.type "range",data:=.fields #[.int i t,.int j t',.int (-1) t'']}).objs.size,[(s1.heap.push {cls:=.type "range",data:=.fields #[.int i t,.int j t',.int (-1) t'']}).objs.size],_,_,H1,rfl,
  J.kept (t':=s1.toks) λ b o e=>Heap.get?_push_of_some _ e,turn_down _ i (i-j).toNat,?_,λ b hb=>?_,q⟩
 ·have e1:i+((0:Nat):Int)*(-1)=i:=by omega
  have e2:(((i-j).toNat:Nat):Int)-((0:Nat):Int)=Builtin.Range.rangeSize i j (-1):=by rw[PySem.W.rangeSize_downNat];omega
  show IsRangeIter _ _ (i+((0:Nat):Int)*(-1)) ((((i-j).toNat:Nat):Int)-((0:Nat):Int)) (-1)
  rw[e1,e2]
  exact Heap.get?_push_size _ rfl
 ·cases List.mem_singleton.mp hb
  exact J.fpOk (Nat.le_refl _) (J.hok.fresh (Nat.le_refl _))
end
theorem comp_downR {hi:Int}{n:Nat}{te:TE}{st:St}{H1:Hp}{Q:VK}{D:Addr} (R:Nat->List V->Hp->Prop) (hD:H1 D=none) (hn:n<=sizeLine) (h0:R 0 [] (upd H1 D (.lst [])))
  (hs:∀ (i:Nat) (ys:List V) (H2:Hp) (k:VK),i<n->Same H1 H2->H2 D=some (.lst ys)->R i ys H2->(∀ y H4,Same H2 H4->R (i+1) (ys++[y]) (upd H4 D (.lst (ys++[y])))->k y H4)->te (some (.int (hi-i))::st) H2 k)
  (hd:∀ ys H2,Same H1 H2->H2 D=some (.lst ys)->ys.length=n->R n ys H2->Q (.ref D) H2):CompGo (Itd hi n) te st D H1 Q:=by
 refine⟨λ i m ys H2=>m=n-i/\i<=n/\ys.length=i/\Same H1 H2/\H2 D=some (.lst ys)/\R i ys H2,⟨n,by simp,Nat.zero_le _,rfl,same_upd (Same.refl H1) hD,upd_same,h0⟩,?_⟩
 rintro i m ys H2 ⟨rfl,hi',hl,sm,e,r⟩
 by_cases hlt:i<n
 ·refine .inr ⟨hlt,?_⟩
  rintro x H3 ⟨rfl,rfl⟩
  refine hs i ys _ _ hlt sm e r λ y H4 s4 r4=>⟨s4 _ _ e,by omega,n-(i+1),by omega,rfl,hlt,by simp [hl],same_upd (sm.trans s4) hD,upd_same,r4⟩
 ·have ei:i=n:=by omega
  subst ei
  exact .inl ⟨Nat.le_refl _,hd ys H2 sm e hl r⟩
end L2
set_option maxHeartbeats 4000000
namespace L2
open PySem PySem.Spec PyProof.Rows
noncomputable def Fz (o:Obj):HO:=.frz o (.ext λ _=>True)
theorem fz_ok {P:Program}{w:World}{H:Hp}{h:Heap}{a:Addr}{o:Obj} (e:h.get? a=some o):ObjOk P w H h a (Fz o):=⟨e,trivial,⟨o,e⟩,λ _ _ _ _=>trivial⟩
theorem fz_get {P:Program}{w:World}{H:Hp}{h:Heap}{a:Addr}{o:Obj} (k:HOk P w H h) (e:H a=some (Fz o)):h.get? a=some o:=(k a _ e).1
noncomputable def hid (H:Hp) (c:Addr):Hp:=λ b=>if b=c then none else H b
theorem hid_ne {H:Hp}{b c:Addr} (h:b≠c):hid H c b=H b:=if_neg h
theorem hid_self {H:Hp}{c:Addr}:hid H c c=none:=if_pos rfl
theorem hid_some {H:Hp}{b c:Addr}{o:HO} (e:hid H c b=some o):b≠c/\H b=some o:=by
 by_cases z:b=c
 ·rw[z,hid_self] at e;cases e
 ·exact⟨z,by rw[hid_ne z] at e;exact e⟩
theorem HOk.hide {P:Program}{w:World}{H:Hp}{h:Heap}{c:Addr}{o:Obj} (k:HOk P w H h) (e:H c=some (Fz o)):HOk P w (hid H c) h:=λ b u q=>by
 obtain⟨n,q⟩:=hid_some q
 refine (k b u q).stay (λ _ _ _ z=>z) (λ d z=>?_) λ d xs z=>?_
 ·rw[hid_ne (λ y=>by rw[y,e] at z;cases z)];exact z
 ·rw[hid_ne (λ y=>by rw[y,e] at z;cases z)];exact z
theorem HOk.show {P:Program}{w:World}{H:Hp}{h:Heap}{c:Addr}{o:Obj} (k:HOk P w H h) (n:H c=none) (e:h.get? c=some o):HOk P w (upd H c (Fz o)) h:=λ b u q=>by
 by_cases z:b=c
 ·subst z
  rw[upd_same] at q
  cases q
  exact fz_ok e
 ·rw[upd_ne z] at q
  refine (k b u q).stay (λ _ _ _ y=>y) (λ d y=>?_) λ d xs y=>?_
  ·rw[upd_ne (ne_of_none y n)];exact y
  ·rw[upd_ne (ne_of_none y n)];exact y
theorem Un.unshow {fs:List Addr}{H H2:Hp}{h h2:Heap}{c:Addr}{o:Obj}{P:Program}{w:World} (n:H c=none) (e:h.get? c=some o) (hf:c ∉ fs) (u:Un fs [] (upd H c (Fz o)) H2 h h2) (k:HOk P w H2 h2):Un fs [] H (hid H2 c) h h2/\HOk P w (hid H2 c) h2/\H2 c=some (Fz o):=by
 have e2:H2 c=some (Fz o):=u.frzs c o _ upd_same
 refine⟨⟨λ b ob q hn hb hx=>?_,λ b ob q hn hb hx=>?_,λ b ob q hn hx=>?_,λ b ob q hx=>u.there b ob q hx,λ b xs q=>?_,λ b ob v q=>?_,λ b ps q=>?_⟩,k.hide e2,e2⟩
 ·by_cases z:b=c
  ·subst z
   rw[e] at q
   cases q
   exact fz_get k e2
  ·exact u.keep b ob q (by rw[upd_ne z];exact hn) hb hx
 ·have z:b≠c:=λ y=>hf (by rw[<-y];exact hb)
  exact u.slot b ob q (by rw[upd_ne z];exact hn) hb hx
 ·by_cases z:b=c
  ·rw[z];exact hid_self
  ·rw[hid_ne z];exact u.free b ob q (by rw[upd_ne z];exact hn) hx
 ·have z:b≠c:=ne_of_none q n
  rw[hid_ne z];exact u.tups b xs (by rw[upd_ne z];exact q)
 ·have z:b≠c:=ne_of_none q n
  rw[hid_ne z];exact u.frzs b ob v (by rw[upd_ne z];exact q)
 ·have z:b≠c:=ne_of_none q n
  rw[hid_ne z];exact u.tbls b ps (by rw[upd_ne z];exact q)
noncomputable def CodeIs (o:Obj) (qual:Str):Prop:=∃ vs t,o.data=.fields vs/\(vs[1]? : Option Value)=some (.str qual t)
noncomputable def tLam (P:Addr) (pos:Pos) (qual:Str) (mk:Addr->Value->Obj):TE:=λ _ H Q=>∃ ps,H P=some (.tbl ps)/\TriplesOk ps.toList /\
 ((codeAmong pos ps.toList=none/\∀ f c' oc ctv,H f=none->H c'=none->f≠c'->CodeIs oc qual->Q (.ref f) (upd (upd (upd H P (.tbl (ps ++ #[rawInt pos.line,rawInt pos.col,.ref c']))) c' (Fz oc)) f (Fz (mk c' ctv)))) ∨
  (∃ c',codeAmong pos ps.toList=some (.ref c')/\∀ f ctv,H f=none->Q (.ref f) (upd H f (Fz (mk c' ctv)))))
section
variable {X:Cx}
theorem pe_lam {params:Arguments}{body:Expr}{scope:Scope}{pos:Pos}{c P:Addr}{clos:List (Str×Addr)} (hcode:X.env.code=.ref c) (hC:PySem.W.CodeHd X.base c P) (hB:X.base.BuiltinsAt X.mg P) (hcl:closureFor scope X.env=pure clos) (hdef:defaultsOf params X.env=([],[])) :
  PE X (.Lambda params body scope pos) (tLam P pos (X.env.qual ++ "<lambda>") λ c' ctv=>PySem.W.kla_obj "<lambda>" (X.env.qual ++ "<lambda>") params body scope clos ((X.mg "__name__").getD .none) c' ctv):=by
 intro pins s σ H Q I h
 obtain⟨ps,hP,ht,hcase⟩:=h
 have eP:s.heap.get? P=some (PySem.W.tabObj ps):=I.hok P _ hP
 have hns:=I.mod.glob.keeps I.bk
 have hgP:mainGlobals≠P:=λ q=>by
  obtain⟨o,es,ep,e,hd,_⟩:=hns
  rw[q,eP] at e;cases e;cases hd
 obtain⟨bm,ob,b1,b2,b3,b4,b5,b6⟩:=hB
 have hB':s.heap.BuiltinsAt X.mg P:=⟨bm,ob,b1,b2,b3,b4,I.bk _ _ b5,b6⟩
 have hC':=hC.keeps I.bk
 refine PySem.W.kla_eval hdef ?_
 rcases hcase with ⟨hno,q⟩ | ⟨c',hc',q⟩
 ·refine PySem.W.kla_makeFunction hcl I.ok.glob hns hcode hC' eP ht hno hgP hB' λ c' ctv h' tk hx hge hlt hrec htb=>?_
  obtain⟨c2,oc,vs,t,e2,hoc,hd,hv⟩:=hrec
  cases e2
  have fresh:∀ b,s.heap.objs.size<=b->H b=none:=λ b hb=>I.hok.fresh hb
  have hf:s.heap.objs.size<=h'.objs.size:=Nat.le_trans hge (Nat.le_of_lt hlt)
  have nfc:h'.objs.size≠c':=Nat.ne_of_gt hlt
  have nPc:P≠c':=λ z=>by rw[z,fresh c' hge] at hP;cases hP
  have nPf:P≠h'.objs.size:=λ z=>by rw[z,fresh _ hf] at hP;cases hP
  have kp:∀ b o,b≠P->s.heap.get? b=some o->(h'.push (PySem.W.kla_obj "<lambda>" (X.env.qual ++ "<lambda>") params body scope clos ((X.mg "__name__").getD .none) c' ctv)).get? b=some o:=λ b o hb e=>Heap.get?_push_of_some _ (hx b o hb e)
  have old:∀ b o,H b=some o->b≠c'/\b≠h'.objs.size:=λ b o e=>⟨ne_of_none e (fresh c' hge),ne_of_none e (fresh _ hf)⟩
  have at_:∀ b o,b≠P->H b=some o->upd (upd (upd H P (.tbl (ps ++ #[rawInt pos.line,rawInt pos.col,.ref c']))) c' (Fz oc)) h'.objs.size (Fz (PySem.W.kla_obj "<lambda>" (X.env.qual ++ "<lambda>") params body scope clos ((X.mg "__name__").getD .none) c' ctv)) b=some o:=λ b o hb e=>by
   rw[upd_ne (old b o e).2,upd_ne (old b o e).1,upd_ne hb];exact e
  refine⟨.ref h'.objs.size,_,I.un (t':=tk) (H':=upd (upd (upd H P (.tbl (ps ++ #[rawInt pos.line,rawInt pos.col,.ref c']))) c' (Fz oc)) h'.objs.size (Fz (PySem.W.kla_obj "<lambda>" (X.env.qual ++ "<lambda>") params body scope clos ((X.mg "__name__").getD .none) c' ctv))) ?_ ?_,rfl,q _ c' oc ctv (fresh _ hf) (fresh _ hge) nfc ⟨vs,t,hd,hv⟩⟩
  ·refine⟨λ b o e n hb hx'=>kp b o (λ z=>by rw[z,hP] at n;cases n) e,λ b o e n hb hx'=>⟨o.slots,kp b o (λ z=>by rw[z,hP] at n;cases n) e⟩,λ b o e n hx'=>?_,λ b o e hx'=>?_,λ b xs e=>at_ b _ (λ z=>by rw[z,hP] at e;cases e) e,λ b o' v e=>at_ b _ (λ z=>by rw[z,hP] at e;cases e) e,λ b ps' e=>?_⟩
   ·have l:=Heap.lt_size e
    rw[upd_ne (Nat.ne_of_lt (Nat.lt_of_lt_of_le l hf)),upd_ne (Nat.ne_of_lt (Nat.lt_of_lt_of_le l hge)),upd_ne (λ z=>by rw[z,hP] at n;cases n)]
    exact n
   ·by_cases z:b=P
    ·exact⟨_,by rw[z];exact Heap.get?_push_of_some _ htb⟩
    ·exact⟨o,kp b o z e⟩
   ·by_cases z:b=P
    ·subst z
     rw[hP] at e
     cases e
     exact⟨_,by rw[upd_ne nPf,upd_ne nPc,upd_same]⟩
    ·exact⟨#[],by rw[at_ b _ z e];simp⟩
  ·intro b o e
   by_cases z1:b=h'.objs.size
   ·subst z1
    rw[upd_same] at e
    cases e
    exact fz_ok (Heap.get?_push_size _ rfl)
   ·rw[upd_ne z1] at e
    by_cases z2:b=c'
    ·subst z2
     rw[upd_same] at e
     cases e
     exact fz_ok (Heap.get?_push_of_some _ hoc)
    ·rw[upd_ne z2] at e
     by_cases z3:b=P
     ·subst z3
      rw[upd_same] at e
      cases e
      exact Heap.get?_push_of_some _ htb
     ·rw[upd_ne z3] at e
      refine (I.hok b o e).stay (λ d u hd' q'=>kp d u ?_ q') (λ d q'=>at_ d _ (λ z=>by rw[z,hP] at q';cases q') q') λ d xs q'=>at_ d _ (λ z=>by rw[z,hP] at q';cases q') q'
      rcases hd' with rfl | hd'
      ·exact z3
      ·exact λ z=>by rw[z,hP] at hd';cases hd'
 ·refine PySem.W.kla_makeFunctionHit hcl I.ok.glob hns hcode hC' eP ht hc' hB' λ ctv h' tk hk hsz=>?_
  have kp:∀ b o,s.heap.get? b=some o->(h'.push (PySem.W.kla_obj "<lambda>" (X.env.qual ++ "<lambda>") params body scope clos ((X.mg "__name__").getD .none) c' ctv)).get? b=some o:=λ b o e=>Heap.get?_push_of_some _ (hk b o e)
  exact⟨.ref h'.objs.size,_,I.laid (t':=tk) kp hsz (fz_ok (Heap.get?_push_size _ rfl)),rfl,q _ ctv (I.hok.fresh hsz)⟩
end
end L2
set_option maxHeartbeats 4000000
namespace L2
open PySem PySem.Spec PyProof.Rows
theorem Env0.showing {P:Program}{w:World}{K:PySem.W.Frag}{mg:Str->Option Value}{base:Heap}{A:Around}{outer:List Env}{s:Shared}{H:Hp}{c:Addr}{o:Obj} (e0:Env0 P w K mg base A outer s H) (n:H c=none) (e:s.heap.get? c=some o) (hf:c ∉ frs outer) (hb:base.get? c=none):Env0 P w K mg base A outer s (upd H c (Fz o)) :=
 ⟨e0.frames,e0.mod,λ b ob q=>⟨(e0.bs b ob q).1,by rw[upd_ne (λ z=>by rw[z,hb] at q;cases q)];exact (e0.bs b ob q).2⟩,e0.bsz,e0.funs,λ b hb'=>by rw[upd_ne (λ z=>hf (by rw[<-z];exact hb'))];exact e0.frf b hb',e0.hok.show n e,e0.bare⟩
theorem CE.unshow {outer:List Env}{P:Program}{w:World}{H:Hp}{s s':Shared}{Q:VK}{u:Value}{c:Addr}{o:Obj} (n:H c=none) (e:s.heap.get? c=some o) (hf:c ∉ frs outer) (h:CE outer P w (upd H c (Fz o)) s (λ v H2=>H2 c=some (Fz o)->Q v (hid H2 c)) u s'):CE outer P w H s Q u s':=by
 obtain⟨v,H2,os,bare,un,hok,r,q⟩:=h
 obtain⟨un',hok',e2⟩:=un.unshow n e hf hok
 exact⟨v,_,os,bare,un',hok',r,q e2⟩
noncomputable def tCallW2 (c1:Addr) (i:Nat) (c2:Addr) (j:Nat) (sp:Sp) (t:TA):TE:=λ σ H Q=>t σ H λ vs H1=>∃ v w,σ[i]? = some (some v)/\σ[j]? = some (some w)/\∀ o1 u1 o2 u2,RelV v u1->o1.data=.cell (some u1)->RelV w u2->o2.data=.cell (some u2)->H1 c1=none->H1 c2=none->c1≠c2 ->
 sp vs (upd (upd H1 c1 (Fz o1)) c2 (Fz o2)) (λ r H2=>H2 c2=some (Fz o2)->hid H2 c2 c1=some (Fz o1)->Q r (hid (hid H2 c2) c1)) E0
section
variable {X:Cx}{k:Nat}{f:Addr}{fd:FuncData}{ps:List Str}{sp:Sp}{x:Str}{p pos:Pos}{e:Expr}{es:List Expr}{t:TA}
theorem cell_of {pins:List (Addr×Obj)}{σ:St}{H:Hp}{s:Shared}{i:Nat}{y:Str}{v:V}{c:Addr} (I:Inv X pins σ H s) (hN:X.N[i]? = some y) (hσ:σ[i]? = some (some v)) (hk:X.env.kindOf y=some .cell) (hc:X.env.cells.lookup y=some c) (hfn:X.fn y=true) :
  ∃ o u,RelV v u/\s.heap.get? c=some o/\o.data=.cell (some u)/\H c=none/\c ∉ frs X.stack/\X.base.get? c=none:=by
 obtain⟨m,hn,hl⟩:=I.loc
 have cab:=I.ok.cab y c hfn hc
 obtain⟨u,ru,lk⟩:=hl i y v hN hσ (.inr (.inl hk))
 rcases lk with ⟨k1,_⟩ | ⟨_,c',e1,o,ho,hd⟩
 ·rw[hk] at k1;cases k1
 ·rw[hc] at e1
  cases e1
  refine⟨o,u,ru,ho,hd,I.freeC y c hc,λ hb=>?_,Heap.get?_none_of_le (Nat.le_trans I.ok.bsz cab)⟩
  rcases List.mem_cons.mp (I.stkSub c hb) with z | z
  ·exact I.cne y c hc z
  ·obtain⟨_,ob,hob,_⟩:=I.ok.funs.mem z
   exact absurd (Nat.lt_of_lt_of_le (Heap.lt_size hob) cab) (Nat.lt_irrefl _)
theorem pe_callW2 {c1 c2:Addr}{i j:Nat}{y z:Str} (F:FnOk X.prog X.w X.K X.mg X.base CX0 k f fd ps sp) (hr:Room k X.A) (hg:Gl X x) (hm:X.mg x=some (.ref f)) (hk:PySem.W.keepIn X.K (.ref f)=true) (hb:Binds X.K fd ps [])
  (hN:X.N[i]? = some y) (hky:X.env.kindOf y=some .cell) (hc:X.env.cells.lookup y=some c1) (hfn:X.fn y=true)
  (hN2:X.N[j]? = some z) (hkz:X.env.kindOf z=some .cell) (hcz:X.env.cells.lookup z=some c2) (hfnz:X.fn z=true) (hyz:y≠z)
  (ha:PA X (e::es) t) (hdb:(x == ("__debug__":Str))=false:=by decide) (he:starEach (e::es) X.env=(false,eval e X.env)::starEach es X.env:=by rfl) (hpl:(backTo pos (starEach es X.env)).any (·.1)=false:=by rfl) :
  PE X (.Call (.Name x p) (e::es) [] pos) (tCallW2 c1 i c2 j sp t):=by
 intro pins s σ H Q I h
 refine wpAny_Call_Name_kw (ld_glob I hg hm ?_ hdb)
 refine PySem.W.callWith_K (h₀:=X.base) I.ok.mod.kin hk (thn (ha pos pins s σ H _ I h) λ us s1 ⟨vs,H1,I1,r,q⟩=>⟨I1.kIn,?_⟩) he hpl
 obtain⟨v,w,hσ,hσ2,q⟩:=q
 obtain⟨o,u,ru,ho,hd,n,nf,nb⟩:=cell_of I1 hN hσ hky hc hfn
 obtain⟨o2,u2,ru2,ho2,hd2,n2,nf2,nb2⟩:=cell_of I1 hN2 hσ2 hkz hcz hfnz
 have ne:c1≠c2:=λ z=>hyz (I1.ok.inj _ _ c1 hc (by rw[z];exact hcz))
 have n2':upd H1 c1 (Fz o) c2=none:=by rw[upd_ne (Ne.symm ne)];exact n2
 have sp1:=q o u o2 u2 ru hd ru2 hd2 n n2 ne
 have hl:(us++[]).length=ps.length:=by rw[List.append_nil,<-r.length];exact F.len _ _ _ _ sp1
 have bd:=hb s1 us I1.kIn hl
 rw[List.append_nil] at bd
 refine wpAny_call (codeAny_mono (F.run X.A X.stack s1 _ ⟨us,[]⟩ us vs _ _ hr ((I1.env0.showing n ho nf nb).showing n2' ho2 nf2 nb2) bd r sp1) λ r s' hq=>?_)
 cases r with
 | error e=>exact False.elim hq
 | ok fl =>
  cases fl with
  | ret u=>exact I1.after (CE.unshow n ho nf (CE.unshow n2' ho2 nf2 hq))
  | next=>exact False.elim hq
  | brk=>exact False.elim hq
  | cont=>exact False.elim hq
noncomputable def tCallV {Par:Type} (fOf:Par->Addr) (i:Nat) (sp:Par->Sp) (t:TA):TE:=λ σ H Q=>∃ π,σ[i]? = some (some (.ref (fOf π)))/\t σ H λ vs H1=>(∃ cl d fd sl,H1 (fOf π)=some (Fz ⟨cl,d,.func fd,sl⟩))/\sp π vs H1 Q E0
theorem keeps_V {M:Model}{a:Addr} (h:Heap) (X:∃ cl d fd sl,h.get? a=some ⟨cl,d,.func fd,sl⟩):∃ k,(k=Keeper.frame∨k=Keeper.machine∨k=Keeper.boundFrame)/\PySem.W.Looks M h (keeperOf (.ref a)) k:=by
 obtain⟨cl,d,fd,sl,q⟩:=X
 exact⟨.frame,.inl rfl,(PySem.W.Looks.ld (part:=none) q).andThen .now⟩
theorem pe_callV {Par:Type}{fOf:Par->Addr}{fdOf:Par->FuncData}{sp:Par->Sp}{i:Nat} (F:∀ π,FnOk X.prog X.w X.K X.mg X.base CX0 k (fOf π) (fdOf π) ps (sp π)) (hr:Room k X.A) (hb:∀ π,Binds X.K (fdOf π) ps []) (hn:PE X (.Name x p) (tVar i))
  (ha:PA X (e::es) t) (he:starEach (e::es) X.env=(false,eval e X.env)::starEach es X.env:=by rfl) (hpl:(backTo pos (starEach es X.env)).any (·.1)=false:=by rfl) :
  PE X (.Call (.Name x p) (e::es) [] pos) (tCallV fOf i sp t):=by
 intro pins s σ H Q I h
 obtain⟨π,hσ,h⟩:=h
 refine wpAny_Call_Name_kw (thn (hn pins s σ H (λ v H'=>v=.ref (fOf π)/\H'=H) I ⟨_,hσ,rfl,rfl⟩) λ fv s0 ⟨v,H0,I0,rv,e1,e2⟩=>?_)
 subst e1 e2
 obtain rfl:fv=Value.ref (fOf π):=rv
 have hh:=thn (ha pos pins s0 σ H0 _ I0 h) (Q':=λ us s1=>(∃ cl d fd sl,s1.heap.get? (fOf π)=some ⟨cl,d,.func fd,sl⟩)/\wpAny (model X.prog X.w) X.A (call (.ref (fOf π)) ([]++us)) (EP X pins σ Q) X.xe s1) λ us s1 ⟨vs,H1,I1,r,⟨cl,d,fd,sl,hf⟩,q⟩=>by
  refine⟨⟨cl,d,fd,sl,fz_get I1.hok hf⟩,?_⟩
  exact run_fn (dvs:=[]) (ds:=[]) (F π) hr (hb π) .nil pass0 I1 r (by rw[List.append_nil];exact q)
 rw[he] at hh ⊢
 exact PySem.W.callWith_of (by show ((false || (backTo pos (starEach es X.env)).any (·.1)) || false)=false;rw[hpl];rfl) keeps_V (PySem.Calls.evalArgs_plain hh)
end
end L2
set_option maxHeartbeats 4000000
namespace L2
open PySem PySem.Spec PyProof.Rows
noncomputable def cxL (P:Program) (w:World) (K:PySem.W.Frag) (mg:Str->Option Value) (base:Heap) (N:List Str) (qual:Str) (scope:Scope) (f c':Addr) (cl:List (Str×Addr)) (A:Around) (outer:List Env) (s:Shared) (H:Hp):Cx where
 prog:=P
 w:=w
 K:=K
 mg:=mg
 base:=base
 A:=A.deeper (PySem.W.envX qual scope s.heap.objs.size f (.ref c') cl)
 N:=N
 s₀:=s
 H₀:=H
 env:=PySem.W.envX qual scope s.heap.objs.size f (.ref c') cl
 outer:=outer
 stack:=PySem.W.envX qual scope s.heap.objs.size f (.ref c') cl::outer
 ex:=[]
 calm:=true
 fn:=λ _=>false
 pn:=[]
 xe:=λ _ _=>False
noncomputable def hidL (H:Hp):List Addr->Hp
 | []=>H
 | c::cs=>hidL (hid H c) cs
noncomputable def shwL (H:Hp):List (Addr×Obj)->Hp
 | []=>H
 | (c,o)::r=>upd (shwL H r) c (Fz o)
theorem hidL_none:∀ {cs:List Addr}{H:Hp}{b:Addr},H b=none->hidL H cs b=none
 | [],_,_,h=>h
 | c :: cs, H, b, h => hidL_none (cs := cs) (by by_cases z : b = c
                                                · rw [z, hid_self]
                                                · rw [hid_ne z]; exact h)
theorem hidL_in:∀ {cs:List Addr}{H:Hp}{b:Addr},b∈cs->hidL H cs b=none
 | c::cs,H,b,h=>by
  show hidL (hid H c) cs b=none
  rcases List.mem_cons.mp h with e | h
  ·rw[e];exact hidL_none hid_self
  ·exact hidL_in (cs:=cs) h
theorem hidL_out:∀ {cs:List Addr}{H:Hp}{b:Addr},b ∉ cs->hidL H cs b=H b
 | [],_,_,_=>rfl
 | c::cs,H,b,h=>by
  have h1:b≠c:=λ z=>h (by rw[z];exact .head _)
  have h2:b ∉ cs:=λ z=>h (.tail _ z)
  exact (hidL_out (cs:=cs) h2).trans (hid_ne h1)
theorem shwL_out:∀ {l:List (Addr×Obj)}{H:Hp}{b:Addr},b ∉ l.map (·.1)->shwL H l b=H b
 | [],_,_,_=>rfl
 | (c,o)::r,H,b,h=>by
  have h1:b≠c:=λ z=>h (by rw[z];exact .head _)
  have h2:b ∉ r.map (·.1):=λ z=>h (.tail _ z)
  show upd (shwL H r) c (Fz o) b=_
  rw[upd_ne h1]
  exact shwL_out h2
theorem shwL_in {H:Hp}{c:Addr}{o:Obj}:∀ (l:List (Addr×Obj)),(l.map (·.1)).Nodup->(c,o)∈l->shwL H l c=some (Fz o):=by
 intro l
 induction l with
 | nil=>intro _ h;exact absurd h List.not_mem_nil
 | cons p r ih =>
  intro nd h
  have nd':=List.nodup_cons.mp nd
  show upd (shwL H r) p.1 (Fz p.2) c=_
  rcases List.mem_cons.mp h with e | h
  ·rw[<-e,upd_same]
  ·have ne:c≠p.1:=λ z=>nd'.1 (List.mem_map.mpr ⟨(c,o),h,z⟩)
   rw[upd_ne ne]
   exact ih nd'.2 h
theorem HOk.hideL {P:Program}{w:World}{H:Hp}{h:Heap} (l:List (Addr×Obj)) (k:HOk P w H h) (e:∀ p∈l,H p.1=some (Fz p.2)):HOk P w (hidL H (l.map (·.1))) h:=λ b u q=>by
 by_cases z:b∈l.map (·.1)
 ·rw[hidL_in z] at q;cases q
 ·rw[hidL_out z] at q
  have nz:∀ d o,H d=some o->(∀ ob,o≠Fz ob)->d ∉ l.map (·.1):=λ d o hd ho hm=>by
   obtain⟨p,hp,rfl⟩:=List.mem_map.mp hm
   rw[e p hp] at hd
   exact ho _ (Option.some.inj hd).symm
  refine (k b u q).stay (λ _ _ _ y=>y) (λ d y=>?_) λ d xs y=>?_
  ·rw[hidL_out (nz d _ y λ ob hh=>by cases hh)];exact y
  ·rw[hidL_out (nz d _ y λ ob hh=>by cases hh)];exact y
theorem HOk.showL {P:Program}{w:World}{h:Heap}:∀ {l:List (Addr×Obj)}{H:Hp},HOk P w H h->(l.map (·.1)).Nodup->(∀ p∈l,H p.1=none)->(∀ p∈l,h.get? p.1=some p.2)->HOk P w (shwL H l) h
 | [],_,k,_,_,_=>k
 | (c,o)::r,H,k,nd,n,e=>by
  have nd':=List.nodup_cons.mp nd
  have k':=HOk.showL (l:=r) k nd'.2 (λ p hp=>n p (.tail _ hp)) λ p hp=>e p (.tail _ hp)
  exact k'.show (by rw[shwL_out nd'.1];exact n _ (.head _)) (e _ (.head _))
structure LamScope (N ps ys:List Str) (sc:Scope):Prop where
 kind:sc.kind=.function
 co:sc.isCoroutine=false
 gen:sc.isGenerator=false
 len:N=ps++ys
 nocell:∀ x∈sc.names,x.2≠.cell
 par:∀ x∈ps,sc.names.lookup x=some .local
 fre:∀ y∈ys,sc.names.lookup y=some .free
 only:∀ x,sc.names.lookup x=some .free->x∈ys
 look:∀ us:List Value,us.length=ps.length->∀ (i:Nat) (x:Str) (u:Value),ps[i]? = some x->us[i]? = some u->(ps.zip us).reverse.lookup x=some u
theorem clo_ok {P:Program}{w:World}{K:PySem.W.Frag}{mg:Str->Option Value}{base:Heap}{k:Nat}{f c':Addr}{name qual:Str}{params:Arguments}{body:Expr}{scope:Scope}{ys:List Str}{cs:List Addr}{pm ctv:Value}{N ps:List Str}{sp:Sp}{cl:List (Str×Addr)}
  (S:LamScope N ps ys scope) (hcl:∀ (i:Nat) y c,ys[i]? = some y->cs[i]? = some c->cl.lookup y=some c) (hcm:∀ y c,cl.lookup y=some c->y∈ys/\c∈cs) (hly:ys.length=cs.length) (hinj:∀ x y c,cl.lookup x=some c->cl.lookup y=some c->x=y) (nd:cs.Nodup)
  (len:∀ vs H Q E,sp vs H Q E->vs.length=ps.length)
  (hbody:∀ (A:Around) (outer:List Env) (s:Shared) (H:Hp) (vs:List V) (Q:VK) (E:XK),Room k (A.deeper (PySem.W.envX qual scope s.heap.objs.size f (.ref c') cl))->sp vs H Q E ->
   H f=some (Fz (PySem.W.kla_obj name qual params body scope cl pm c' ctv))/\(∃ oc,H c'=some (Fz oc)/\CodeIs oc qual) /\
   ∃ (os:List Obj) (ws:List V),os.length=cs.length/\ws.length=cs.length/\(∀ (i:Nat) c o v,cs[i]? = some c->os[i]? = some o->ws[i]? = some v->H c=some (Fz o)/\∃ u,RelV v u/\o.data=.cell (some u)) /\
   ∃ t,PE (cxL P w K mg base N qual scope f c' cl A outer s (hidL H cs)) body t/\t (vs.map some++ws.map some) (hidL H cs) λ r H2=>(∀ c∈cs,H2 c=none)->Q r (shwL H2 (cs.zip os))) :
  FnOk P w K mg base CX0 (k+1) f (PySem.W.kla_fn name qual params body scope cl pm (.ref c') ctv) ps sp:=by
 refine⟨len,λ A outer s H args us vs Q E hr e0 hb r hsp=>?_⟩
 have hl:=len _ _ _ _ hsp
 have hlu:us.length=ps.length:=by rw[<-r.length];exact hl
 obtain⟨hf,⟨oc,hoc,cv,ct,hcd,hcv⟩,os,ws,lo,lw,hcells,t,ht,hq⟩:=hbody A outer s H vs Q E (hr.deeper _) hsp
 have lim:s.heap.NoLimit:=e0.mod.nolimit.keeps λ b o e=>(e0.bs b o e).1
 have cellAt:∀ c∈cs,∃ (i:Nat) (o:Obj) (v:V) (u:Value),cs[i]? = some c/\os[i]? = some o/\ws[i]? = some v/\H c=some (Fz o)/\RelV v u/\o.data=.cell (some u):=λ c hc=>by
  obtain⟨i,hi⟩:=List.mem_iff_getElem?.mp hc
  have hil:=(List.getElem?_eq_some_iff.mp hi).1
  have e1:=List.getElem?_eq_getElem (show i<os.length by omega)
  have e2:=List.getElem?_eq_getElem (show i<ws.length by omega)
  obtain⟨a,u,b,d⟩:=hcells i c _ _ hi e1 e2
  exact⟨i,_,_,u,hi,e1,e2,a,b,d⟩
 have pairs:∀ p∈cs.zip os,H p.1=some (Fz p.2):=λ p hp=>by
  obtain⟨i,hi⟩:=List.mem_iff_getElem?.mp hp
  rw[List.getElem?_zip_eq_some] at hi
  have hil:=(List.getElem?_eq_some_iff.mp hi.1).1
  have e2:=List.getElem?_eq_getElem (show i<ws.length by omega)
  exact (hcells i _ _ _ hi.1 hi.2 e2).1
 have mapz:(cs.zip os).map (·.1)=cs:=List.map_fst_zip (by omega)
 have nfr:∀ c∈cs,c ∉ frs outer:=λ c hc hm=>by
  obtain⟨_,o,_,_,_,_,_,e,_⟩:=cellAt c hc
  rw[e0.frf c hm] at e;cases e
 refine PySem.W.kla_callFunE hr.depth (fz_get e0.hok hf) rfl S.co S.gen rfl ⟨c',oc,cv,ct,rfl,fz_get e0.hok hoc,hcd,hcv⟩ (hb _ _ _ _ ?_)
 refine wpAny_newFunctionEnv S.nocell (λ x hx=>S.par _ (List.of_mem_zip hx).1) (λ h₁ hns hsb=>?_) S.kind
 have hk₁:∀ b o,s.heap.get? b=some o->h₁.get? b=some o:=λ b o e=>hsb.extBut b o (Nat.ne_of_lt (Heap.lt_size e)) (Heap.get?_push_of_some _ e)
 refine⟨lim.keeps hk₁,?_⟩
 show codeAny _ _ (.expr body (PySem.W.envX qual scope s.heap.objs.size f (.ref c') cl)) _ _
 have hok':HOk P w (hidL H cs) s.heap:=by have:=e0.hok.hideL (cs.zip os) pairs;rw[mapz] at this;exact this
 have noA:∀ b:Addr,b ∉ (cxL P w K mg base N qual scope f c' cl A outer s (hidL H cs)).ex:=λ b z=>absurd (show b∈([]:List Addr) from z) (by simp)
 have I:Inv (cxL P w K mg base N qual scope f c' cl A outer s (hidL H cs)) [] (vs.map some++ws.map some) (hidL H cs) {s with heap:=h₁,toks:=s.toks+(ps.zip us).length}:=by
  refine⟨⟨e0.mod,S.kind,rfl,rfl,Nat.le_refl _,hinj,λ y hy=>?_,λ y c hfn _=>absurd (show false=true from hfn) Bool.false_ne_true,λ _=>hr.hd,Around.frames_deeper e0.frames,.inr ⟨rfl,rfl⟩,λ b z=>absurd z (noA b),λ b o e=>⟨(e0.bs b o e).1,hidL_none (e0.bs b o e).2⟩,e0.bsz,λ b _ _=>noA b,λ b z=>absurd z (noA b),e0.funs,λ b hb'=>hidL_none (e0.frf b hb')⟩,
   rfl,e0.bare,Un.kept hk₁,⟨_,hns,λ i x v h1 h2 h3=>?_⟩,λ y c h=>?_,hok'.fresh (Nat.le_refl _),λ y c h=>hidL_in (hcm y c h).2,λ p hp=>absurd (show p∈([]:List (Addr×Obj)) from hp) (by simp),hok'.kept hk₁,?_⟩
  ·have hy:scope.names.lookup y=some .cell∨scope.names.lookup y=some .free:=hy
   rcases hy with hy | hy
   ·exact absurd rfl (S.nocell _ (PySem.mem_of_lookup hy))
   ·obtain⟨i,hi⟩:=List.mem_iff_getElem?.mp (S.only y hy)
    have hil:=(List.getElem?_eq_some_iff.mp hi).1
    exact⟨_,hcl i y _ hi (List.getElem?_eq_getElem (show i<cs.length by omega))⟩
  ·have h1:(ps++ys)[i]? = some x:=by rw[<-S.len];exact h1
   by_cases hi:i<ps.length
   ·rw[List.getElem?_append_left hi] at h1
    rw[List.getElem?_append_left (by simp;omega),List.getElem?_map] at h2
    cases ev:vs[i]? with
    | none=>rw[ev] at h2;cases h2
    | some v' =>
     rw[ev] at h2
     cases h2
     obtain⟨u,hu,ru⟩:=r.get ev
     exact⟨u,ru,.inl ⟨S.par x (List.mem_of_getElem? h1),S.look us hlu i x u h1 hu⟩⟩
   ·rw[List.getElem?_append_right (by omega)] at h1
    rw[List.getElem?_append_right (by simp;omega),List.getElem?_map,List.length_map] at h2
    rw[hl] at h2
    cases ev:ws[i-ps.length]? with
    | none=>rw[ev] at h2;cases h2
    | some v' =>
     rw[ev] at h2
     cases h2
     have hil:=(List.getElem?_eq_some_iff.mp ev).1
     have ec:=List.getElem?_eq_getElem (show i-ps.length<cs.length by omega)
     have eo:=List.getElem?_eq_getElem (show i-ps.length<os.length by omega)
     obtain⟨a,u,b,d⟩:=hcells _ _ _ _ ec eo ev
     exact⟨u,b,.inr ⟨.inr (S.fre x (List.mem_of_getElem? h1)),_,hcl _ x _ h1 ec,_,hk₁ _ _ (fz_get e0.hok a),d⟩⟩
  ·obtain⟨i,o,v,u,_,_,_,a,b,d⟩:=cellAt c (hcm y c h).2
   exact⟨_,o,hk₁ _ _ (fz_get e0.hok a),d⟩
  ·show (vs.map some++ws.map some).length=N.length
   rw[S.len,List.length_append,List.length_append,List.length_map,List.length_map]
   omega
 refine PySem.W.kla_codeExpr (wpAny_mono (ht [] _ _ _ _ I hq) (λ v s' hs=>?_) λ e s' hs=>False.elim hs)
 obtain⟨v',H',J,rv,q⟩:=hs
 have nin:∀ b,H b=none->b ∉ cs:=λ b e hm=>by
  obtain⟨_,o,_,_,_,_,_,a,_⟩:=cellAt b hm
  rw[e] at a;cases a
 have out:∀ b,b ∉ cs->shwL H' (cs.zip os) b=H' b:=λ b hb=>shwL_out (by rw[mapz];exact hb)
 have JB:Un (frs outer) [] (hidL H cs) H' s.heap s'.heap:=J.base
 have exact_:∀ p∈cs.zip os,s'.heap.get? p.1=some p.2:=λ p hp=>by
  have hc:p.1∈cs:=(List.of_mem_zip hp).1
  exact JB.keep p.1 p.2 (fz_get e0.hok (pairs p hp)) (hidL_in hc) (nfr _ hc) (by simp)
 have freeC:∀ p∈cs.zip os,H' p.1=none:=λ p hp=>by
  have hc:p.1∈cs:=(List.of_mem_zip hp).1
  exact JB.free p.1 p.2 (fz_get e0.hok (pairs p hp)) (hidL_in hc) (by simp)
 have freeA:∀ c∈cs,H' c=none:=λ c hc=>by
  obtain⟨_,o,_,_,_,_,_,e,_⟩:=cellAt c hc
  exact JB.free c o (fz_get e0.hok e) (hidL_in hc) (by simp)
 refine⟨v',_,J.os,J.bare,⟨λ b o e n hb hx=>?_,λ b o e n hb hx=>?_,λ b o e n hx=>?_,λ b o e hx=>JB.there b o e hx,λ b xs e=>?_,λ b o v e=>?_,λ b ps' e=>?_⟩,J.hok.showL (by rw[mapz];exact nd) freeC exact_,rv,q freeA⟩
 ·exact JB.keep b o e (hidL_none n) hb hx
 ·exact JB.slot b o e (hidL_none n) hb hx
 ·rw[out b (nin b n)]
  exact JB.free b o e (hidL_none n) hx
 ·have nb:b ∉ cs:=λ hm=>by
   obtain⟨_,o,_,_,_,_,_,a,_⟩:=cellAt b hm
   rw[e] at a;cases a
  rw[out b nb]
  exact JB.tups b xs (by rw[hidL_out nb];exact e)
 ·by_cases nb:b∈cs
  ·obtain⟨i,o',_,_,e1,e2,_,a,_⟩:=cellAt b nb
   rw[e] at a
   have hm:(b,o')∈cs.zip os:=List.mem_iff_getElem?.mpr ⟨i,List.getElem?_zip_eq_some.mpr ⟨e1,e2⟩⟩
   rw[shwL_in _ (by rw[mapz];exact nd) hm,<-a]
  ·rw[out b nb]
   exact JB.frzs b o v (by rw[hidL_out nb];exact e)
 ·have nb:b ∉ cs:=λ hm=>by
   obtain⟨_,o,_,_,_,_,_,a,_⟩:=cellAt b hm
   rw[e] at a;cases a
  rw[out b nb]
  exact JB.tbls b ps' (by rw[hidL_out nb];exact e)
end L2
set_option maxHeartbeats 4000000
namespace L2
open PySem PySem.Spec PyProof.Rows
theorem law_callT {P:Program}{w:World}{K:PySem.W.Frag}{mg mb:Str->Option Value}{CX:CXT}{k:Nat}{fa a c T:Addr}{fd:FuncData}{x:Str}{sp:Sp}{s₁:Shared}{vs:List Value}{ns:List Int}
  (KX:K.In s₁.heap) (hns:s₁.heap.Ns mainGlobals mg) (hb:s₁.heap.Ns builtinsNs mb) (hbb:∀ x:Str,x≠"__name__"->mb x=bootBuiltins x) (hlim:s₁.heap.NoLimit) (hg:s₁.gens=#[])
  (ha:s₁.heap.get? a=some {cls:=.type "list",data:=.seq vs.toArray}) (hi:IntsAre vs ns) (hl:ns.length<=sizeLine) (hr:Room k callerA)
  (hC:PySem.W.CodeHd s₁.heap c T) (hT:s₁.heap.get? T=some (PySem.W.tabObj #[])) (hKT:K.lookup T=none) (hTS:T≠cStatics) (hB:s₁.heap.BuiltinsAt mg T)
  (F:∀ base:Heap,K.In base->base.Ns mainGlobals mg->PySem.W.CodeHd base c T->base.BuiltinsAt mg T->FnOk P w K mg base CX k fa fd [x] sp) (hbind:∀ (s:Shared) (u:Value),BindsTo s fd ⟨[u],[]⟩ [(x,u)])
  (hsp:∀ H:Hp,SqL K H a (ns.map V.int)->H T=some (.tbl #[])->sp [.ref a] H (λ v _=>v=.bl true) λ _ _ _=>False)
  (hCX:∀ H e s',CX [] H s₁ (λ _ _ _=>False) e s'->False) :
  codeAny (model P w) callerA (.call (.ref fa) ⟨[.ref a],[]⟩) (λ r s'=>r=.ok (.ret (.bool true))/\OldK s₁.heap s'.heap/\s'.os=s₁.os/\AllBare s'.gens) s₁:=by
 have rv:=vals_ints hi
 have lenV:=hi.length
 have naT:a≠T:=λ z=>by rw[z,hT] at ha;cases ha
 have core:∀ H:Hp,(∀ b,b≠T->H b=none∨∃ o xs,H b=some (.frz o (.lst xs)))->SqL K H a (ns.map V.int)->HOk P w H s₁.heap->(∀ b,H b≠none->b=a∨b=T)->(H a≠none->K.lookup a=none)->H T=some (.tbl #[]) ->
   codeAny (model P w) callerA (.call (.ref fa) ⟨[.ref a],[]⟩) (λ r s'=>r=.ok (.ret (.bool true))/\OldK s₁.heap s'.heap/\s'.os=s₁.os/\AllBare s'.gens) s₁:=by
  intro H hO hS hok hA hK hHT
  have base_of:∀ {b:Addr}{o:Obj},s₁.heap.get? b=some o->H b=none->(hidT s₁.heap H).get? b=some o:=λ e n=>hidT_get e n
  have plain:∀ {b:Addr}{o:Obj},s₁.heap.get? b=some o->o≠{cls:=.type "list",data:=.seq vs.toArray}->o≠PySem.W.tabObj #[]->H b=none:=λ {b o} e n1 n2=>by
   cases q:H b with
   | none=>rfl
   | some u =>
    rcases hA b (by rw[q];simp) with z | z
    ·rw[z,ha] at e;exact absurd (Option.some.inj e).symm n1
    ·rw[z,hT] at e;exact absurd (Option.some.inj e).symm n2
  have nsK:∀ {b:Addr}{m:Str->Option Value},s₁.heap.Ns b m->(hidT s₁.heap H).Ns b m:=λ {b m} ⟨o,es,ep,e,d,r⟩=>⟨o,es,ep,base_of e (plain e (λ z=>by rw[z] at d;cases d) λ z=>by rw[z] at d;cases d),d,r⟩
  have hKb:K.In (hidT s₁.heap H):=λ b o e=>base_of (KX b o e) (by
   cases q:H b with
   | none=>rfl
   | some u =>
    rcases hA b (by rw[q];simp) with z | z
    ·subst z
     rw[hK (by rw[q];simp)] at e;cases e
    ·rw[z,hKT] at e;cases e)
  have hM:Mod K mg (hidT s₁.heap H):=⟨hKb,nsK hns,⟨mb,nsK hb,hbb⟩,let ⟨mc,h1,h2⟩:=hlim;⟨mc,nsK h1,h2⟩⟩
  have e0:Env0 P w K mg (hidT s₁.heap H) callerA [] s₁ H:=⟨rfl,hM,λ b o e=>of_hidT e,Nat.le_of_eq (hidT_size _ _),trivial,λ b hb=>absurd (show b∈([]:List Addr) from hb) (by simp),hok,.of_eq hg⟩
  have hCb:PySem.W.CodeHd (hidT s₁.heap H) c T:=by
   obtain⟨o,cv,file,tf,flags,tg,inF,text,tt,e1,e2,e3,r⟩:=hC
   exact⟨o,cv,file,tf,flags,tg,inF,text,tt,base_of e1 (plain e1 (λ z=>by rw[z] at e3;cases e3) λ z=>by rw[z] at e2;cases e2),e2,e3,r⟩
  have hBb:(hidT s₁.heap H).BuiltinsAt mg T:=by
   obtain⟨bm,ob,b1,b2,b3,b4,b5,b6,b7⟩:=hB
   exact⟨bm,ob,b1,b2,b3,b4,base_of b5 (plain b5 (λ z=>by rw[z] at b7;cases b7.2) λ z=>by rw[z] at b6;cases b6),b6,b7⟩
  refine codeAny_mono ((F _ hKb (nsK hns) hCb hBb).run callerA [] s₁ H ⟨[.ref a],[]⟩ [.ref a] [.ref a] _ _ hr e0 (hbind s₁ (.ref a)) (.cons rfl .nil) (hsp H hS hHT)) λ r s' h=>?_
  cases r with
  | error e=>exact (hCX H e s' h).elim
  | ok fl =>
   cases fl with
   | next=>exact False.elim h
   | brk=>exact False.elim h
   | cont=>exact False.elim h
   | ret u =>
    obtain⟨v,H',os,bare,un,hok',r',q⟩:=h
    have q':v=.bl true:=q
    subst q'
    obtain rfl:u=Value.bool true:=r'
    have kp:Heap.ExtBut T s₁.heap s'.heap:=λ b o nb e=>by
     cases q:H b with
     | none=>exact un.keep b o e q (by intro z;exact absurd (show b∈([]:List Addr) from z) (by simp)) (by simp)
     | some u =>
      rcases hO b nb with z | ⟨ob,xs,z⟩
      ·rw[q] at z;cases z
      ·have z2:=un.frzs b ob _ z
       obtain⟨e1,_⟩:=hok b _ z
       obtain⟨e2,_⟩:=hok' b _ z2
       rw[e] at e1;cases e1
       exact e2
    obtain⟨more,hmore⟩:=un.tbls T #[] hHT
    have hT':s'.heap.get? T=some (PySem.W.tabObj (#[]++more)):=hok' T _ hmore
    have hC':PySem.W.CodeHd s'.heap c T:=by
     obtain⟨o,cv,file,tf,flags,tg,inF,text,tt,e1,e2,e3,e4,e5,e6,e7,e8,e9,ne⟩:=hC
     exact⟨o,cv,file,tf,flags,tg,inF,text,tt,kp _ _ ne e1,e2,e3,e4,e5,e6,e7,e8,e9,ne⟩
    exact⟨rfl,(OldK.refl s₁.heap).step_table (hC.tab hT) (hC.tab hT) (hC'.tab hT') kp hTS,os,bare⟩
 have tOk:∀ H:Hp,ObjOk P w H s₁.heap T (.tbl #[]):=λ H=>hT
 cases hk:K.lookup a with
 | some o =>
  have e:=KX a o hk
  rw[ha] at e
  cases e
  refine core (λ b=>if b=T then some (.tbl #[]) else none) (λ b nb=>.inl (if_neg nb)) (.inr ⟨_,vs.toArray,_,hk,rfl,rfl,rfl,by rw[List.size_toArray,lenV];exact hl,by simpa using rv⟩) (λ b u z=>?_) (λ b z=>?_) (λ z=>absurd (if_neg naT) z) (if_pos rfl)
  ·by_cases hb:b=T
   ·have z':=(if_pos hb).symm.trans z
    cases z'
    rw[hb]
    exact tOk _
   ·have z':=(if_neg hb).symm.trans z
    cases z'
  ·by_cases hb:b=T
   ·exact .inr hb
   ·exact absurd (if_neg hb) z
 | none =>
  refine core (λ b=>if b=T then some (.tbl #[]) else if b=a then some (.frz {cls:=.type "list",data:=.seq vs.toArray} (.lst (ns.map V.int))) else none) (λ b nb=>?_) (.inl (.inr ⟨{cls:=.type "list",data:=.seq vs.toArray},(if_neg naT).trans (if_pos rfl)⟩)) (λ b u z=>?_) (λ b z=>?_) (λ _=>hk) (if_pos rfl)
  ·by_cases hb:b=a
   ·exact .inr ⟨_,_,(if_neg nb).trans (if_pos hb)⟩
   ·exact .inl ((if_neg nb).trans (if_neg hb))
  ·by_cases hT':b=T
   ·have z':=(if_pos hT').symm.trans z
    cases z'
    rw[hT']
    exact tOk _
   ·by_cases hb:b=a
    ·have z':=((if_neg hT').trans (if_pos hb)).symm.trans z
     cases z'
     subst hb
     exact⟨ha,by rw[List.length_map];exact hl,vs,_,rv,ha⟩
    ·have z':=((if_neg hT').trans (if_neg hb)).symm.trans z
     cases z'
  ·by_cases hT':b=T
   ·exact .inr hT'
   ·by_cases hb:b=a
    ·exact .inl hb
    ·exact absurd ((if_neg hT').trans (if_neg hb)) z
theorem walk_ofT {l:PySem.W.OpenLaw}{n k:Nat}{q:Program}{loose:List Str}{XP:(Str->Option Value)->Heap->Prop}{YP:World->Heap->Prop}{d:DefRec}{K:Params->PySem.W.Frag}{sp:PySem.W.Frag->Addr->Sp}{x tn:Str}
  (hn:l.most=some n) (hn2:n<=sizeLine) (hdf:d.params.defaults = []) (hr:Room k callerA) (hrec:((recsOf q).find? (λ e=>e.name == tn)).isSome=true)
  (hY:∀ (w:World) (h:Heap),YP w h->(K w.params).In h)
  (F:∀ (w:World) (mg:Str->Option Value) (fa:Addr) (h:Heap),(K w.params).In h->h.Ns mainGlobals mg->mg d.name=some (.ref fa) ->
   ∃ (c T:Addr) (fd:FuncData),PySem.W.tabIn (K w.params) tn=some (c,T)/\(K w.params).lookup T=none/\T≠cStatics/\(∀ (s:Shared) (u:Value),BindsTo s fd ⟨[u],[]⟩ [(x,u)]) /\
    ∀ base:Heap,(K w.params).In base->base.Ns mainGlobals mg->PySem.W.CodeHd base c T->base.BuiltinsAt mg T->FnOk l.prog w (K w.params) mg base CX0 k fa fd [x] (sp (K w.params) T))
  (hsp:∀ (K:PySem.W.Frag) (T:Addr) (H:Hp) (a:Addr) (ns:List Int),ns.length<=n->(∀ i∈ns,Bg i)->SqL K H a (ns.map V.int)->H T=some (.tbl #[])->sp K T [.ref a] H (λ v _=>v=.bl true) λ _ _ _=>False) :
  PySem.W.WalkO q loose XP YP l.row.toRowW d [] (λ f vs=>PySem.call f vs):=by
 refine attachB hn hdf λ w s0 s1 mg mb fa o pm cd doc a vs ns G Y ho hd hcd hmg hobj hints hlen hbg hg=>?_
 have KX:=hY w _ Y
 obtain⟨c,T,fd,htab,hKT,hTS,hb,hF⟩:=F w mg fa _ KX G.T.g hmg
 obtain⟨dt,hdt⟩:=Option.isSome_iff_exists.mp hrec
 obtain⟨hC,hT⟩:=PySem.W.tab_of G.T KX hdt htab
 obtain⟨bm,ob,b1,b2,b3,b4,b5,b6⟩:=G.T.bmain
 have hbT:bm≠T:=λ z=>by rw[z,hT] at b3;cases b3;cases b4
 have hbG:bm≠mainGlobals:=λ z=>by
  obtain⟨o,es,ep,e,hd,_⟩:=G.T.g
  rw[z,e] at b3;cases b3;rw[hd] at b6;cases b6
 exact law_callT KX G.T.g G.T.b G.T.builtins G.T.nolimit hg hobj hints (Nat.le_trans hlen hn2) hr hC hT hKT hTS ⟨bm,ob,b1,b2,hbG,hbT,b3,b4,b5,b6⟩ hF hb (λ H hS hHT=>hsp _ T H a ns hlen hbg hS hHT) λ H e s' h=>h
theorem Fun.okC {P:Program}{w:World}{K:PySem.W.Frag}{mg:Str->Option Value}{base:Heap}{x qual:Str}{st:Stmt}{f:Addr}{N ps:List Str}{k:Nat}{sp:Sp}{oc kV doc pm cdv ct:Value}{od an:Option Addr}{osl:Array (Option Value)}
  (lk:K.lookup f=some ⟨oc,od,.func (PySem.W.fnOf x qual (defArgs st) (defBody st) (defScope st) .none kV doc pm an cdv ct),osl⟩) (hcd:PySem.W.codeIn K cdv qual=true) (S:FnScope N ps (defScope st)) (len:∀ vs H Q E,sp vs H Q E->vs.length=ps.length)
  (hbody:∀ (A:Around) (outer:List Env) (s:Shared) (H:Hp) (vs:List V) (Q:VK) (E:XK),Room k (A.deeper (envOfC qual (defScope st) s.heap.objs.size f cdv))->sp vs H Q E ->
   ∃ t,PSs (cxOf CX0 P w K mg base N qual (defScope st) f cdv A outer s H E).nox (defBody st) t/\t {nx:=λ _ H'=>Q .non H',rt:=Q} (start N vs) H):FnOk P w K mg base CX0 (k+1) f (PySem.W.fnOf x qual (defArgs st) (defBody st) (defScope st) .none kV doc pm an cdv ct) ps sp:=by
 refine fn_of lk hcd S len λ A outer s H vs Q E hr hsp=>?_
 obtain⟨t,h,q⟩:=hbody A outer s H vs Q E hr hsp
 exact⟨t,h.nox,q⟩
theorem tab_code {K:PySem.W.Frag}{x:Str}{f c T:Addr}{oc:Value}{od:Option Addr}{fd:FuncData}{osl:Array (Option Value)} (a:PySem.W.nsIn K mainGlobals x=some (some (.ref f))) (l:K.lookup f=some ⟨oc,od,.func fd,osl⟩) (ht:PySem.W.tabIn K x=some (c,T)):fd.code=.ref c:=by
 unfold PySem.W.tabIn at ht
 rw[a] at ht
 dsimp only at ht
 rw[l] at ht
 dsimp only at ht
 split at ht
 ·rename_i c2 hc
  split at ht
  ·split at ht
   ·cases ht;exact hc
   ·cases ht
  ·cases ht
 ·cases ht
theorem tab_mk {K:PySem.W.Frag}{x:Str}{f c T:Addr}{oc oT:Value}{od dT:Option Addr}{fd:FuncData}{osl slT:Array (Option Value)}{vs:Array Value} (a:PySem.W.nsIn K mainGlobals x=some (some (.ref f))) (l:K.lookup f=some ⟨oc,od,.func fd,osl⟩) (hc:fd.code=.ref c)
  (lc:K.lookup c=some ⟨oT,dT,.fields vs,slT⟩) (hv:(vs[11]? : Option Value)=some (.ref T)):PySem.W.tabIn K x=some (c,T):=by
 unfold PySem.W.tabIn
 rw[a]
 dsimp only
 rw[l]
 dsimp only
 rw[hc]
 dsimp only
 rw[lc]
 dsimp only
 rw[hv]
end L2
set_option maxHeartbeats 4000000
namespace L2
open PySem PySem.Spec PyProof.Rows
end L2
set_option maxHeartbeats 4000000
namespace L2
open PySem
section
variable {prog:Program}{w:World}{A:Around}{E:Value->Shared->Prop}{h:Heap}{g:Array GenState}{d:Drawn}{t:Nat}{os:OsState}
variable {nm q:Str}{C N:Addr}{bs bm bmB bmN:List Value}{hdct:Bool}{sn:List Str}{sub:List Value}{ab:Bool}{col:Option Bool}{dd:Option Addr}{k0 k1 k2 k3 k5:Option Value}{B Bn nid inN newId initId:String}
theorem type_call_init (Fn:ExcBaseFacts Bn newId inN bmN) (hBn:bmB.contains (.type Bn)=true) (F:ExcBaseFacts B nid initId bmB) (T:OwnTail h bmB bm) {mN:Str->Option Value}{rest:List Value}{fI:Addr}{oI:Obj}{Q:Fin->Shared->Prop}
  (hC:h.get? C=some (excClassObj nm q C N bs bm hdct sn sub ab col dd k0 k1 k2 k3 k5 newId)) (hn:h.Ns N mN) (hi:mN "__init__" = some (.ref fI)) (hfI:h.get? fI=some oI) (hfc:oI.cls=.type "function")
  (hq:∀ h' e,Heap.MadeExcOf h h' e (.ref C) rest->wpAny (model prog w) A (call (.ref fI) (.ref e::rest)) (λ r s'=>r=.none/\Q (.done (.ret (.ref e))) s') E ⟨h',g,d,t,os⟩) (hrest:rest.length<=sizeLine) :
  wpAny (model prog w) A (Builtin.«type.__call__» ⟨.ref C::rest,[]⟩) Q E ⟨h,g,d,t,os⟩:=by
 repeat (first | with_reducible refine wpAny_loadPart_at hC ?_ | with_reducible refine wpAny_madeBy_exc hC ?_ | wp_step)
 refine codeAny_call_builtin_code (Code.quiet_builtin _ Fn.quiet) (wpAny_check_new_subU Fn hBn T hC ?_)
 refine codeAny_exc_new_subU Fn hBn F T hC ?_ hrest
 show wpAny _ _ _ _ _ _
 generalize hx:(h.push {cls:=.type "tuple",data:=.seq rest.toArray}).push {cls:=.ref C,data:=.fields #[.ref h.objs.size,.none,.none,.none,.bool false,.none]}=hp
 have keep:∀ b o,h.get? b=some o->hp.get? b=some o:=λ b o e=>by rw[<-hx];exact Heap.get?_push_of_some _ (Heap.get?_push_of_some _ e)
 have hn1:hp.Ns N mN:=let ⟨o,es,ep,e,r⟩:=hn;⟨o,es,ep,keep _ _ e,r⟩
 have hget:hp.get? (h.objs.size+1)=some {cls:=.ref C,data:=.fields #[.ref h.objs.size,.none,.none,.none,.bool false,.none]}:=by rw[<-hx];heap_get
 have htup:hp.get? h.objs.size=some {cls:=.type "tuple",data:=.seq rest.toArray}:=by rw[<-hx];exact Heap.get?_push_of_some _ (Heap.get?_push_at rfl rfl)
 have hcC:(Value.ref C::bm).contains (.ref C)=true:=by simp
 have T1:=T.keeps (h':=hp) keep
 unfold isInstance
 repeat (first | with_reducible refine wpAny_loadPart_at hget ?_ | (with_reducible refine wpAny_isSubtype_exc (keep _ _ hC) ?_;rw[hcC]) | wp_step)
 show wpAny _ _ (typeLookup (.ref C) _) _ _ _
 refine wpAny_typeLookup_tail (keep _ _ hC) hn1 T1 F.mroIs F.init.lookup ?_
 rw[hi]
 refine wpAny_holding (wpAny_bind ?_)
 unfold bindSpecial
 refine wpAny_bind (wpAny_typeOf (T:="function") ⟨_,keep _ _ hfI,hfc⟩ ?_)
 rw[if_pos (by decide)]
 refine wpAny_pure (wpAny_bind (wpAny_mono (hq _ (h.objs.size+1) ⟨keep,Heap.get?_none_of_le (Nat.le_succ _),h.objs.size,hget,Heap.get?_none_of_le (Nat.le_refl _),htup⟩) (λ r s' hr=>?_) λ _ _ e=>e))
 obtain⟨rfl,hQ⟩:=hr
 wp_walk
 exact hQ
theorem call_init (Fn:ExcBaseFacts Bn newId inN bmN) (hBn:bmB.contains (.type Bn)=true) (F:ExcBaseFacts B nid initId bmB) (T:OwnTail h bmB bm) {mN:Str->Option Value}{rest:List Value}{fI:Addr}{oI:Obj}{Q:Value->Shared->Prop}
  (hC:h.get? C=some (excClassObj nm q C N bs bm hdct sn sub ab col dd k0 k1 k2 k3 k5 newId)) (hn:h.Ns N mN) (hi:mN "__init__" = some (.ref fI)) (hfI:h.get? fI=some oI) (hfc:oI.cls=.type "function")
  (hq:∀ h' e,Heap.MadeExcOf h h' e (.ref C) rest->wpAny (model prog w) (A.under (.builtin "type.__call__" ⟨.ref C::rest,[]⟩)) (call (.ref fI) (.ref e::rest)) (λ r s'=>r=.none/\Q (.ref e) s') E ⟨h',g,d,t,os⟩) (hrest:rest.length<=sizeLine) :
  wpAny (model prog w) A (call (.ref C) rest) Q E ⟨h,g,d,t,os⟩:=by
 have f1:=tc_lookup
 have f2:=tc_bind (.ref C)
 have hT:(⟨h,g,d,t,os⟩:Shared).TypeIs (.ref C) "type":=⟨_,hC,rfl⟩
 refine wpAny_call (codeAny_of_tree ?_)
 show wpAny _ _ (callAny (.ref C) _) _ _ _
 repeat (any_goals (first | assumption | with_reducible refine wpAny_loadPart_at hC ?_ | wp_step))
 refine⟨rfl,codeAny_call_builtin_at (Code.quiet_builtin _ (by decide +kernel)) entry_typeCall (wpAny_check_type_call_sub hC (type_call_init Fn hBn F T hC hn hi hfI hfc (λ h' e hm=>hq h' e hm) hrest))⟩
end
end L2
set_option maxHeartbeats 4000000
namespace L2
open PySem PySem.Spec PySem.W PyProof.Rows Builtin Builtin.ObjectAttr
noncomputable def valMro:List Value->Bool
 | .ref _::r=>valMro r
 | l=>l == vbm
theorem refuse_val (self:Value) (l:List Value) (e:valMro l=true):refuseLoop self "__setattr__" l=pure ():=by
 induction l with
 | nil=>exact absurd e (by decide)
 | cons v r ih =>
  cases v with
  | ref c=>rw[refuseLoop_ref];exact ih e
  | _ =>
   have e':=beq_iff_eq.mp e
   rw[e']
   exact PySem.F.store_ValueError.passes self
theorem val_has (l:List Value) (e:valMro l=true):l.contains (.type "object")=true:=by
 induction l with
 | nil=>exact absurd e (by decide)
 | cons v r ih =>
  cases v with
  | ref c=>rw[List.contains_cons,ih e,Bool.or_true]
  | _ =>
   have e':=beq_iff_eq.mp e
   rw[e']
   decide
structure XSet (K:Frag) (C:Addr) (f:Str):Prop where
 sa:findIn K (.ref C) "__setattr__" = some (some (.builtin "object.__setattr__"))
 at_:findIn K (.ref C) f=some none
 st:(clsIn K C).any (λ cd=>valMro cd.mro && cd.hasDict)=true
section
variable {prog:Program}{w:World}{A:Around}{E:Value->Shared->Prop}{s:Shared}{K:Frag}{C a:Addr}{name:Str}{v:Value}
theorem exc_set {ox:Obj}{vs:Array Value}{Q:Unit->Shared->Prop} (X:K.In s.heap) (x:XSet K C name) (hx:s.heap.get? a=some ox) (hc:ox.cls=.ref C) (hd:ox.data=.fields vs) (hn:ox.dict=none)
  (h:∀ h' tk,h'.get? a=some {ox with dict:=some s.heap.objs.size}->h'.Ns1 s.heap.objs.size (λ y=>if y=name then some v else none)->(∀ b o,b≠a->s.heap.get? b=some o->h'.get? b=some o)->Q () {s with heap:=h',toks:=tk}) :
  wpAny (model prog w) A (setAttr (.ref a) name v) Q E s:=by
 obtain⟨oc,od,oda,osl⟩:=ox
 dsimp only at hc hd hn
 subst hc hd hn
 have I:InstAt s.heap a ⟨.ref C,none,.fields vs,osl⟩ C none:=⟨hx,rfl,rfl,trivial⟩
 have SF:=PySem.F.store_object
 obtain⟨cd,hcd,ho⟩:=any_some x.st
 obtain⟨hv,hh⟩:=Bool.and_eq_true_iff.mp ho
 have ne:cd.mro.isEmpty=false:=by
  cases q:cd.mro with
  | nil=>rw[q] at hv;exact absurd hv (by decide)
  | cons _ _=>rfl
 have sub:Looks (model prog w) s.heap (isInstance (.ref a) (.type "object")) true:=I.type.andThen (looks_mroIn X (by unfold mroIn;rw[hcd,Option.bind_some,if_neg (by rw[ne];decide),val_has _ hv]))
 have hm:Looks (model prog w) s.heap (mroOf (.ref C)) cd.mro:=(looks_clsIn X hcd).andThen .now
 refine set_plain X I x.sa ?_
 refine codeAny_call_builtin SF.slot.plain SF.entry (@check_slot (model prog w) _ _ {s with toks:=s.toks+1} "object.__setattr__" "object" "__setattr__" (.ref a) [.str name s.toks,v] [] _ SF.kind SF.split sub (SF.args (.ref a) (.str name s.toks) v) ?_)
 rw[osa_eq,refuse_eq]
 refine wpAny_bind (wpAny_bind (I.type.here (s:={s with toks:=s.toks+1}) (wpAny_bind (hm.here (s:={s with toks:=s.toks+1}) ?_))))
 rw[refuse_val _ _ hv]
 refine wpAny_pure (wpAny_bind (I.type.here (s:={s with toks:=s.toks+1}) (wpAny_bind ((looks_findIn X x.at_).here (s:={s with toks:=s.toks+1}) (wpAny_bind (wpAny_pure ?_))))))
 obtain⟨h0,g,d,t,os⟩:=s
 dsimp only at *
 refine wpAny_bind (wpAny_pure (wpAny_bind (wpAny_bind (wpAny_loadPart hx (wpAny_bind (Looks.here (s:=⟨h0,g,d,t+1,os⟩) (looks_clsIn X hcd) ?_))))))
 rw[hh]
 have hx1:(h0.push {cls:=.type "dict",data:=.dict #[]}).get? a=some ⟨.ref C,none,.fields vs,osl⟩:=Heap.get?_push_of_some _ hx
 have hxs:a≠h0.objs.size:=Nat.ne_of_lt (Heap.lt_size hx)
 refine wpAny_bind (wpAny_alloc' ?_)
 refine wpAny_bind (wpAny_update' hx1 ?_)
 refine wpAny_pure ?_
 have hgd:((h0.push {cls:=.type "dict",data:=.dict #[]}).update a λ o=>{o with dict:=some h0.objs.size}).get? h0.objs.size=some {cls:=.type "dict",data:=.dict #[]} :=
  (Heap.get?_update_ne _ _ _ _ hxs.symm).trans (Heap.get?_push_at rfl rfl)
 have hnd:((h0.push {cls:=.type "dict",data:=.dict #[]}).update a λ o=>{o with dict:=some h0.objs.size}).Ns h0.objs.size (λ _=>none):=⟨_,#[],_,hgd,rfl,λ e he=>absurd he (by simp),λ _=>rfl⟩
 show wpAny _ _ (storeInDict h0.objs.size (.str name t) name v) _ _ _
 unfold storeInDict newKeyGuard
 refine wpAny_bind (wpAny_pure (wpAny_bind (wpAny_nsSet1 (Heap.Ns1.of_empty hnd) λ h' hn' hs=>?_)))
 obtain⟨oD,esD,epD,hoD,hdD,hcD⟩:=hn'.count (Within.cons name v Within.nil)
 refine wpAny_bind (wpAny_lookBehind hoD (by rw[hdD];exact pastItsLine_dict (Nat.le_trans hcD (by rw[List.length_cons,List.length_nil,sizeLine_eq];omega))) ?_)
 refine wpAny_pure (h h' _ ?_ hn' λ b o hb e=>?_)
 ·refine (hs.2 a hxs).trans (Heap.get?_update_self _ hx1 ?_)
  have hfr:=(Heap.get?_some_iff.mp hx).2
  exact hfr
 ·exact (hs.2 b (Nat.ne_of_lt (Heap.lt_size e))).trans ((Heap.get?_update_ne _ _ _ _ hb).trans (Heap.get?_push_of_some _ e))
structure XGet (K:Frag) (C:Addr) (f:Str):Prop where
 ga:findIn K (.ref C) "__getattribute__" = some (some (.builtin "BaseException.__getattribute__"))
 gt:findIn K (.ref C) "__getattr__" = some none
 at_:findIn K (.ref C) f=some none
 hd:hasDictIn K C=true
 be:subIn K (.ref C) (.type "BaseException")=some true
seal wpAny in
theorem exc_get {expr:Bool}{ox:Obj}{vs:Array Value}{dx:Addr}{mA:Str->Option Value}{Q:Value->Shared->Prop} (X:K.In s.heap) (x:XGet K C name) (hx:s.heap.get? a=some ox) (hc:ox.cls=.ref C) (hd:ox.data=.fields vs) (hn:ox.dict=some dx)
  (hN:s.heap.Ns1 dx mA) (hv:mA name=some v) (hv':handedIn v=true) (q:Q v {s with toks:=s.toks+1}):wpAny (model prog w) A (getAttr (.ref a) name expr) Q E s:=by
 obtain⟨oc,od,oda,osl⟩:=ox
 dsimp only at hc hd hn
 subst hc hd hn
 obtain⟨oD,hoD,hl⟩:=lookIn_ns hN
 have I:InstAt s.heap a ⟨.ref C,some dx,.fields vs,osl⟩ C (some oD):=⟨hx,rfl,rfl,hoD⟩
 have hf:findObj K C (some oD) name=some (.value v):=findObj_own x.hd x.at_ rfl (by rw[hl,hv])
 obtain⟨h,g,d,t,os⟩:=s
 have M0:=I.type (M:=model prog w)
 have M1:=looks_findIn (M:=model prog w) X x.ga
 have M2:=looks_findIn (M:=model prog w) X x.gt
 have M3:=looks_find (M:=model prog w) X I hf
 have n1:(onTheHeap (Value.ref C) && Value.builtin "BaseException.__getattribute__" == Value.builtin "object.__getattribute__")=false:=by
  rw[show (Value.builtin "BaseException.__getattribute__" == Value.builtin "object.__getattribute__")=false by decide +kernel,Bool.and_false]
 have n2:(expr && onTheHeap (Value.builtin "BaseException.__getattribute__"))=false:=by cases expr<;>rfl
 unfold getAttr getAttrBy
 refine wpAny_bind (wpAny_mkText (wpAny_holding (wpAny_bind (M0.at (wpAny_bind (M1.at ?_))))))
 simp only[n1,Bool.false_eq_true,if_false]
 unfold getAttrByItsOwn hookBefore
 refine wpAny_bind (M2.at (wpAny_bind (wpAny_attempt (wpAny_holding ?_))))
 unfold callGetattribute boundAndCalled
 simp only[n2,Bool.false_eq_true,if_false]
 rw[F.attr_ValueError.ga.bind (.ref a)]
 refine wpAny_bind (wpAny_pure ?_)
 refine wpAny_call (codeAny_call_builtin F.attr_ValueError.ga.plain F.entry_bexc_ga ?_)
 have M4:Looks (model prog w) h (isInstance (.ref a) (.type "BaseException")) true:=M0.andThen (looks_subIn X x.be)
 have k1:builtinKind "BaseException.__getattribute__" = some .slot:=by decide +kernel
 have k2:splitId "BaseException.__getattribute__" = some ("BaseException","__getattribute__"):=by decide +kernel
 show wpAny _ _ (checkBuiltinCall "BaseException.__getattribute__" ⟨[.ref a,.str name t],[]⟩) _ _ _
 have k3:argsOk "BaseException.__getattribute__" ⟨[.ref a,.str name t],[]⟩:=F.args_bexc_ga (.ref a) (.str name t)
 refine check_slot (self:=.ref a) (rest:=[.str name t]) (kw:=[]) (owner:="BaseException") (n:="__getattribute__") k1 k2 M4 k3 ?_
 unfold Builtin.«object.__getattribute__»
 refine wpAny_bind (wpAny_pure (wpAny_bind (wpAny_pure (wpAny_bind (M0.at (wpAny_bind (M3.at ?_)))))))
 refine wpAny_pure ?_
 show wpAny (model prog w) A (handedOut v) _ _ _
 exact handed_on hv' q
end
end L2
set_option maxHeartbeats 4000000
namespace L2
open PySem
theorem dict_mapFields (o:Obj) (f:Array Value->Array Value):(Obj.mapFields f o).dict=o.dict:=by
 obtain⟨c,d,da,sl⟩:=o
 cases da<;>rfl
noncomputable def TrD (h B:Heap) (e:Addr) (cls a0 fl:Value) (dd:Option Addr):Prop :=
 ∃ oe vs T oT ts,h.get? e=some oe/\(oe.cls=cls/\vs[0]? = some a0/\oe.dict=dd)/\oe.data=.fields vs/\vs[1]? = some (.ref T)/\B.get? T=none/\T≠e/\h.get? T=some oT/\oT.data=.fields ts/\ts[3]? = some fl
theorem TrD.at {h B:Heap}{e:Addr}{cls a0 fl:Value}{dd:Option Addr} (x:TrD h B e cls a0 fl dd):h.TracedAtW B e cls a0 fl :=
 let ⟨oe,vs,T,oT,ts,he,⟨hc,h0,_⟩,r⟩:=x
 ⟨oe,vs,T,oT,ts,he,⟨hc,h0⟩,r⟩
noncomputable def FlD (B:Heap) (l:List Env) (e:Addr) (cls a0 fl:Value) (dd:Option Addr) (h:Heap):Prop:=B.StaysIn h/\B.get? e=none/\h.FunFrames B l/\TrD h B e cls a0 fl dd
theorem FlD.w {B h:Heap}{l:List Env}{e:Addr}{cls a0:Value}{dd:Option Addr} (x:FlD B l e cls a0 .none dd h):Heap.FlyingW B l e cls a0 h:=⟨x.1,x.2.1,x.2.2.1,x.2.2.2.at⟩
theorem FlD.first {B h:Heap}{l:List Env}{e:Addr}{cls a0 fl:Value}{dd:Option Addr} (x:FlD B l e cls a0 fl dd h):∃ oe vs,h.get? e=some oe/\oe.cls=cls/\oe.data=.fields vs/\oe.dict=dd :=
 let ⟨_,_,_,oe,vs,_,_,_,he,hc,hd,_⟩:=x
 ⟨oe,vs,he,hc.1,hd,hc.2.2⟩
section
variable {M:Model}{A:Around}{E:Value->Shared->Prop}{s:Shared}{B:Heap}{env:Env}{l outer:List Env}{L e:Addr}{cls a0:Value}{dd:Option Addr}{Q:Unit->Shared->Prop}
theorem entry_d {oe:Obj}{vs:Array Value}{head:Value}{hadNext:Bool} (hfr:A.frames=some (env::outer)) (hl:s.heap.FunFrames B (env::outer)) (hf:env.frame=some L) (he:s.heap.get? e=some oe)
  (st:B.StaysIn s.heap) (hen:B.get? e=none) (hd:oe.data=.fields vs) (hsz:1<vs.size) (h0:vs[0]? = some a0)
  (h:∀ h',FlD B (env::outer) e oe.cls a0 (rawInt L) oe.dict h'->s.heap.UpToSlots h'->Q () {s with heap:=h'}) :
  wpAny M A (do let a <-frameOf env;let pl <-entryPlaceOf L hadNext;let b <-EntryCells.newEntry head a .none (rawInt L) .none pl;setField (.ref e) 1 b) Q E s:=by
 have notF:e ∉ (env::outer).filterMap (·.frame):=λ hm=>by
  obtain⟨_,o,ho,hnf⟩:=hl.mem hm
  rw[he] at ho
  cases ho
  exact hnf vs hd
 refine wpAny_bind (wpAny_frameOf_fun hfr hl hf λ h1 hs1=>?_)
 refine wpAny_bind (wpAny_entryPlaceOf λ pl hpl=>?_)
 unfold EntryCells.newEntry newFields
 refine wpAny_bind (wpAny_newObj_type ?_ (hpl.sizeOk5 _ _ _ _ _))
 have he1:h1.get? e=some oe:=(hs1.2.1 e notF).trans he
 have kb1:B.StaysIn h1:=λ b o z=>(hs1.2.1 b λ hm=>by rw[(hl.mem hm).1] at z;cases z).trans (st b o z)
 generalize hob:({cls:=.type "traceback",dict:=none,data:=.fields ([head,.ref L,.none,rawInt L,.none]++(if pl.isEmpty then List.replicate 6 Value.none else pl)).toArray}:Obj)=ob
 have hfree:ob.isFreed=false:=by rw[<-hob];rfl
 have hobd:ob.data=.fields ([head,.ref L,.none,rawInt L,.none]++(if pl.isEmpty then List.replicate 6 Value.none else pl)).toArray:=by rw[<-hob]
 have he2:(h1.push ob).get? e=some oe:=Heap.get?_push_of_some ob he1
 have hTe:h1.objs.size≠e:=Nat.ne_of_gt (Heap.lt_size he1)
 have hd3:=Obj.data_mapFields hd (·.setIfInBounds 1 (Value.ref h1.objs.size))
 have he3:=Heap.get?_update_self (Obj.mapFields (·.setIfInBounds 1 (Value.ref h1.objs.size))) he2 (Obj.isFreed_of_fields hd3)
 have hT3:=(Heap.get?_update_other (h1.push ob) (Obj.mapFields (·.setIfInBounds 1 (Value.ref h1.objs.size))) (Ne.symm hTe)).trans (Heap.get?_push_size h1 hfree)
 have keep:∀ b o,b≠e->h1.get? b=some o->((h1.push ob).update e (Obj.mapFields (·.setIfInBounds 1 (Value.ref h1.objs.size)))).get? b=some o:=λ b o hbe hb=>by
  rw[Heap.get?_update_other _ _ (Ne.symm hbe)]
  exact Heap.get?_push_of_some _ hb
 have noRec:∀ b o,s.heap.get? b=some o->(∀ vs,o.data≠.fields vs)->b≠e:=λ b o hb hnf q=>by
  rw[q,he] at hb
  cases hb
  exact hnf vs hd
 refine wpAny_setField he2 hd hsz (h _ ⟨?_,hen,?_,?_⟩ ?_)
 ·exact λ b o z=>keep b o (λ q=>by rw[q,hen] at z;cases z) (kb1 b o z)
 ·exact hl.of_keeps λ b o hb hnf=>let ⟨sl,hs⟩:=hs1.2.2 b o hb;⟨_,keep b _ (noRec b o hb hnf) hs,rfl⟩
 ·refine⟨_,_,h1.objs.size,_,_,he3,⟨Obj.cls_mapFields _ _,by rw[Array.getElem?_setIfInBounds_ne (by decide)];exact h0,dict_mapFields _ _⟩,hd3,by simp [hsz],kb1.fresh,hTe,hT3,hobd,by first | (simp;done) | (rcases hpl with rfl | ⟨_,_,_,_,_,_,_,rfl⟩<;>simp)⟩
 ·exact λ b o hb hnf=>let ⟨sl,hs⟩:=hs1.2.2 b o hb;⟨sl,keep b _ (noRec b o hb hnf) hs⟩
theorem mark_d {fl:Value} (hh:FlD B l e cls a0 fl dd s.heap) (h:∀ h',FlD B l e cls a0 .none dd h'->s.heap.UpToSlots h'->Q () {s with heap:=h'}):wpAny M A (setFlight (.ref e) none) Q E s:=by
 obtain⟨st,hen,hl,oe,vs,T,oT,ts,he,hcls,hd,h1,hnT,hTe,hT,hdT,h3⟩:=hh
 have sz:3<ts.size:=(Array.getElem?_eq_some_iff.mp h3).1
 have oth:∀ b,b≠T->(s.heap.update T (Obj.mapFields (·.setIfInBounds 3 ((none:Option Addr).elim Value.none λ f=>rawInt f)))).get? b=s.heap.get? b:=λ b hb=>Heap.get?_update_other _ _ (Ne.symm hb)
 have nr:∀ b o,s.heap.get? b=some o->(∀ vs,o.data≠.fields vs)->b≠T:=λ b o hb hnf q=>by
  rw[q,hT] at hb
  cases hb
  exact hnf ts hdT
 unfold setFlight
 refine wpAny_bind (wpAny_field he hd h1 ?_)
 rw[if_pos (show (Value.ref T != Value.none)=true from by simp)]
 refine wpAny_setField hT hdT sz (h _ ⟨λ b o z=>(oth b λ q=>by rw[q,hnT] at z;cases z).trans (st b o z),hen,hl.of_keeps λ b o hb hnf=>⟨o,(oth b (nr b o hb hnf)).trans hb,rfl⟩,?_⟩ λ b o hb hnf=>⟨o.slots,(oth b (nr b o hb hnf)).trans hb⟩)
 exact⟨oe,vs,T,_,_,(oth e (Ne.symm hTe)).trans he,hcls,hd,h1,hnT,hTe,Heap.get?_update_self _ hT (Obj.isFreed_of_fields (Obj.data_mapFields hdT _)),Obj.data_mapFields hdT _,by simp [sz]⟩
theorem leaves_d {oe:Obj}{vs:Array Value} (hfr:A.frames=some (env::outer)) (hf:env.frame=some L) (st:B.StaysIn s.heap) (hl:s.heap.FunFrames B (env::outer)) (he:s.heap.get? e=some oe) (hen:B.get? e=none)
  (hd:oe.data=.fields vs) (h1:vs[1]? = some .none) (h0:vs[0]? = some a0) (h:∀ h',FlD B outer e oe.cls a0 .none oe.dict h'->s.heap.UpToSlots h'->Q () {s with heap:=h'}):wpAny M A (leaving env (.ref e)) Q E s:=by
 unfold leaving noteFrame
 simp only[hf]
 refine wpAny_bind (wpAny_bind (wpAny_field he hd h1 ?_))
 rw[if_neg (by decide)]
 refine entry_d hfr hl hf he st hen hd (Array.getElem?_eq_some_iff.mp h1).1 h0 λ h' x up=>?_
 refine mark_d x λ h2 y up2=>?_
 obtain⟨k1,k2,⟨_,_,k3⟩,k4⟩:=y
 exact h h2 ⟨k1,k2,k3,k4⟩ (up.trans up2)
theorem looks_d (hfr:A.frames=some (env::outer)) (hf:env.frame=some L) (x:FlD B (env::outer) e cls a0 .none dd s.heap) (h:∀ h',FlD B (env::outer) e cls a0 (rawInt L) dd h'->s.heap.UpToSlots h'->Q () {s with heap:=h'}) :
  wpAny M A (noteFrame (.ref e) env) Q E s:=by
 obtain⟨st,hen,hl,oe,vs,T,oT,ts,he,⟨hcls,h0,hdd⟩,hd,h1,hnT,hTe,hT,hdT,h3⟩:=x
 subst hcls hdd
 unfold noteFrame
 simp only[hf]
 refine wpAny_bind (wpAny_field he hd h1 ?_)
 rw[if_pos (show (Value.ref T != Value.none)=true from by simp)]
 refine wpAny_bind (wpAny_field hT hdT h3 ?_)
 rw[if_neg (show ¬ ((Value.none == rawInt L)=true) from by simp [rawInt])]
 refine wpAny_bind (wpAny_setField hT hdT (Array.getElem?_eq_some_iff.mp h3).1 ?_)
 have oth:∀ b,b≠T->(s.heap.update T (Obj.mapFields (·.setIfInBounds 3 Value.none))).get? b=s.heap.get? b:=λ b hb=>Heap.get?_update_other _ _ (Ne.symm hb)
 have nr:∀ b o,s.heap.get? b=some o->(∀ vs,o.data≠.fields vs)->b≠T:=λ b o hb hnf q=>by
  rw[q,hT] at hb
  cases hb
  exact hnf ts hdT
 exact entry_d hfr (hl.of_keeps λ b o hb hnf=>⟨o,(oth b (nr b o hb hnf)).trans hb,rfl⟩) hf ((oth e (Ne.symm hTe)).trans he) (λ b o z=>(oth b λ q=>by rw[q,hnT] at z;cases z).trans (st b o z)) hen hd
  (Array.getElem?_eq_some_iff.mp h1).1 h0 λ h' y up=>h h' y λ b o hb hnf=>up b o ((oth b (nr b o hb hnf)).trans hb) hnf
end
end L2
set_option maxHeartbeats 4000000
namespace L2
open PySem PySem.Spec PySem.W PyProof.Rows
noncomputable def FlyD (l:List Env) (h0:Heap) (H':Hp) (e:Addr) (cls:Value) (dd:Option Addr) (h:Heap):Prop :=
 ∃ (B:Heap) (t:Addr),FlD B l e cls (.ref t) .none dd h/\h0.get? e=none/\H' e=none /\
  ∀ b o,h.get? b=some o->((∃ o',h0.get? b=some o')∨∃ u,H' b=some u)->b ∉ frs l->B.get? b=some o
noncomputable def CXD (P:Program) (w:World):CXT:=λ outer H s E e s' =>
 ∃ a cls dd H',e=.ref a/\s'.os=s.os/\AllBare s'.gens/\Un (frs outer) [] H H' s.heap s'.heap/\HOk P w H' s'.heap/\FlyD outer s.heap H' a cls dd s'.heap/\E cls dd H'
noncomputable def exD (t:Addr):Array Value:=#[.ref t,.none,.none,.none,.bool false,.none]
section
variable {X:Cx}{pins:List (Addr×Obj)}{σ:St}{H:Hp}{s:Shared}{E:XK}{M:Model}
theorem fly_outD (dx:DefCx X) (I:Inv X pins σ H s) {B h':Heap}{e t:Addr}{cls:Value}{dd:Option Addr}
  (kB:∀ b o,s.heap.get? b=some o->((∃ o',X.s₀.heap.get? b=some o')∨∃ u,H b=some u)->b ∉ frs X.stack->B.get? b=some o)
  (fw:FlD B X.outer e cls (.ref t) .none dd h') (up:s.heap.UpToSlots h') (ne:X.s₀.heap.get? e=none) (hn:H e=none) (q:E cls dd H):CXD X.prog X.w X.outer X.H₀ X.s₀ E (.ref e) {s with heap:=h'}:=by
 have un0:Un X.fs [] X.H₀ H X.s₀.heap s.heap:=by have:=I.base;rw[dx.ex] at this;exact this
 have sub:∀ b∈X.fs,b∈frs X.stack:=λ b hb=>by
  rw[dx.st];unfold frs;rw[List.filterMap_cons,dx.fr];exact List.mem_cons_of_mem _ hb
 have hl:∀ b∈frs X.stack,b ∉ X.fs->X.s₀.heap.get? b=none:=λ b hb hn=>by
  rcases List.mem_cons.mp (I.stkSub b hb) with z | z
  ·cases q:X.s₀.heap.get? b with
   | none=>rfl
   | some o=>exact absurd z (I.notMine q)
  ·exact absurd z hn
 obtain⟨un,hok⟩:=fly_keeps (h5:=h') un0 I.hok kB I.stack sub hl I.stkFree fw.1 up
 refine⟨e,cls,dd,H,rfl,I.os,I.bare,un,hok,⟨B,t,fw,ne,hn,λ b o e1 hz hb=>?_⟩,q⟩
 have there:∃ o2,s.heap.get? b=some o2:=by
  rcases hz with ⟨o',z⟩ | ⟨u,z⟩
  ·exact un0.there b o' z (by simp)
  ·exact (I.hok b u z).there
 have nst:b ∉ frs X.stack:=λ z=>by
  rcases List.mem_cons.mp (I.stkSub b z) with y | y
  ·rcases hz with ⟨o',q⟩ | ⟨u,q⟩
   ·exact I.notMine q y
   ·rw[I.stkFree b z] at q;cases q
  ·exact hb y
 obtain⟨o2,e2⟩:=there
 have e3:=kB b o2 e2 hz nst
 have e4:=fw.1 b o2 e3
 have e1':h'.get? b=some o:=e1
 rw[e1'] at e4
 cases e4
 exact e3
theorem leave_d (dx:DefCx X) (I:Inv X pins σ H s) {e t:Addr}{oe:Obj} (he:s.heap.get? e=some oe) (hd:oe.data=.fields (exD t)) (ne:X.s₀.heap.get? e=none) (hn:H e=none) (q:E oe.cls oe.dict H) {E':Value->Shared->Prop} :
  wpAny M X.A (leaving X.env (.ref e)) (λ _ s2=>CXD X.prog X.w X.outer X.H₀ X.s₀ E (.ref e) s2) E' s:=by
 have hin:∀ env∈X.stack,∀ b,env.frame=some b->b∈e::frs X.stack:=λ env hv b hb=>List.mem_cons_of_mem _ (List.mem_filterMap.mpr ⟨env,hv,hb⟩)
 have ff:=PySem.W.funFrames_hide I.stack hin
 rw[dx.st] at ff
 refine leaves_d (B:=PySem.W.hideAll s.heap (e::frs (X.env::X.outer))) (by rw[I.ok.frames,dx.st]) dx.fr (λ b o z=>PySem.W.of_hideAll _ z) ff he (PySem.W.hideAll_none _ List.mem_cons_self) hd rfl (a0:=.ref t) rfl λ h' x up=>?_
 refine fly_outD dx I (λ b o e1 hz hb=>PySem.W.hideAll_get _ e1 λ z=>?_) x up ne hn q
 rcases List.mem_cons.mp z with y | y
 ·subst y
  rcases hz with ⟨o',q⟩ | ⟨u,q⟩
  ·rw[ne] at q;cases q
  ·rw[hn] at q;cases q
 ·rw[<-dx.st] at y
  exact hb y
noncomputable def ReachD (X:Cx) (E:XK):Prop:=∀ (pins:List (Addr×Obj)) (σ:St) (H:Hp) (s:Shared) (e t:Addr) (oe:Obj),Inv X pins σ H s->s.heap.get? e=some oe->oe.data=.fields (exD t)->X.s₀.heap.get? e=none->H e=none->E oe.cls oe.dict H->X.xe (.ref e) s
theorem Inv.untrack {e:Addr}{φ:Heap->Prop} (I:Inv X pins σ H s) (h:H e=some (.ext φ)):Inv X pins σ (hid H e) s:=by
 have b:=I.base
 have ne:∀ c u,H c=some u->u≠.ext φ->c≠e:=λ c u q n z=>by rw[z,h] at q;cases q;exact n rfl
 refine⟨I.ok,I.os,I.bare,⟨b.keep,b.slot,λ c u e1 e2 e3=>?_,b.there,λ c xs q=>?_,λ c u v q=>?_,λ c ps q=>?_⟩,I.loc,I.cell,?_,λ x c q=>?_,λ p hq=>?_,λ c u q=>?_,I.len⟩
 ·by_cases z:c=e
  ·rw[z];exact hid_self
  ·rw[hid_ne z];exact b.free c u e1 e2 e3
 ·have y:=b.tups c xs q
  rw[hid_ne (ne _ _ y (by intro z;cases z))];exact y
 ·have y:=b.frzs c u v q
  rw[hid_ne (ne _ _ y (by intro z;cases z))];exact y
 ·obtain⟨more,y⟩:=b.tbls c ps q
  exact⟨more,by rw[hid_ne (ne _ _ y (by intro z;cases z))];exact y⟩
 ·by_cases z:X.env.locals=e
  ·rw[z];exact hid_self
  ·rw[hid_ne z];exact I.free
 ·by_cases z:c=e
  ·rw[z];exact hid_self
  ·rw[hid_ne z];exact I.freeC x c q
 ·obtain⟨y1,y2,y3⟩:=I.pin p hq
  refine⟨y1,?_,y3⟩
  by_cases z:p.1=e
  ·rw[z];exact hid_self
  ·rw[hid_ne z];exact y2
 ·obtain⟨n,q⟩:=hid_some q
  refine (I.hok c u q).stay (λ _ _ _ y=>y) (λ d y=>?_) (λ d xs y=>?_)
  ·rw[hid_ne (ne _ _ y (by intro z;cases z))];exact y
  ·rw[hid_ne (ne _ _ y (by intro z;cases z))];exact y
end
section
variable {P:Program}{w:World}{K:PySem.W.Frag}{mg:Str->Option Value}{base:Heap}{N:List Str}{qual:Str}{scope:Scope}{f:Addr}{cd:Value}{A:Around}{outer:List Env}{s:Shared}{H:Hp}{E:XK}
theorem reachD:ReachD (cxOf (CXD P w) P w K mg base N qual scope f cd A outer s H E) E:=λ _ _ _ _ _ _ _ I he hd ne hn q=>leave_d dxOf I he hd ne hn q
theorem Fun.okCD {x:Str}{st:Stmt}{ps:List Str}{k:Nat}{sp:Sp}{oc kV doc pm cdv ct:Value}{od an:Option Addr}{osl:Array (Option Value)}
  (lk:K.lookup f=some ⟨oc,od,.func (PySem.W.fnOf x qual (defArgs st) (defBody st) (defScope st) .none kV doc pm an cdv ct),osl⟩) (hcd:PySem.W.codeIn K cdv qual=true) (S:FnScope N ps (defScope st)) (len:∀ vs H Q E,sp vs H Q E->vs.length=ps.length)
  (hbody:∀ (A:Around) (outer:List Env) (s:Shared) (H:Hp) (vs:List V) (Q:VK) (E:XK),Room k (A.deeper (envOfC qual (defScope st) s.heap.objs.size f cdv))->sp vs H Q E ->
   ∃ t,PSs (cxOf (CXD P w) P w K mg base N qual (defScope st) f cdv A outer s H E) (defBody st) t/\t {nx:=λ _ H'=>Q .non H',rt:=Q} (start N vs) H):FnOk P w K mg base (CXD P w) (k+1) f (PySem.W.fnOf x qual (defArgs st) (defBody st) (defScope st) .none kV doc pm an cdv ct) ps sp :=
 fn_of lk hcd S len λ A outer s H vs Q E hr hsp=>hbody A outer s H vs Q E hr hsp
end
noncomputable def XN (C e t:Addr):HO:=.ext λ h=>h.get? e=some {cls:=.ref C,data:=.fields (exD t)}
noncomputable def XE (C e dx t:Addr):HO:=.ext λ h=>h.get? e=some {cls:=.ref C,dict:=some dx,data:=.fields (exD t)}
theorem xn_ok {P:Program}{w:World}{H:Hp}{h:Heap}{C e t:Addr} (q:h.get? e=some {cls:=.ref C,data:=.fields (exD t)}):ObjOk P w H h e (XN C e t):=⟨q,⟨_,q⟩,λ _ _ a b=>b _ a⟩
theorem xe_ok {P:Program}{w:World}{H:Hp}{h:Heap}{C e dx t:Addr} (q:h.get? e=some {cls:=.ref C,dict:=some dx,data:=.fields (exD t)}):ObjOk P w H h e (XE C e dx t):=⟨q,⟨_,q⟩,λ _ _ a b=>b _ a⟩
noncomputable def sFldX (K:PySem.W.Frag) (ta tv:TE) (f:Str):TS:=λ D σ H=>tv σ H λ y H1=>ta σ H1 λ x H2=>∃ C e t,x=.ref e/\H2 e=some (XN C e t)/\XSet K C f /\
 ∀ dx,H2 dx=none->dx≠e->D.nx σ (upd (upd H2 e (XE C e dx t)) dx (.xd [(f,y)]))
theorem ps_fldX {X:Cx}{o value:Expr}{f:Str}{pos pos':Pos}{ta tv:TE} (ha:PE X o ta) (hv:PE X value tv) (hs:swapsWith value (some (.Attribute o f pos')) pos.line X.env=pure false):PS X (.Assign [.Attribute o f pos'] value pos) (sFldX X.K ta tv f):=by
 intro pins s σ H D I h
 refine plainObj_wpAny_Assign_Attribute (thn (hv pins s σ H _ I h) λ u s1 ⟨y,H1,I1,ry,q⟩=>thn (ha pins s1 σ H1 _ I1 q) λ ov s2 ⟨x,H2,I2,rx,C,e,t,ex,he,xs,q2⟩=>?_) hs
 subst ex
 obtain rfl:ov=Value.ref e:=rx
 have hx:s2.heap.get? e=some {cls:=.ref C,data:=.fields (exD t)}:=(I2.hok e _ he).1
 have lt:=Heap.lt_size hx
 have nd:s2.heap.objs.size≠e:=Nat.ne_of_gt lt
 have hd0:H2 s2.heap.objs.size=none:=I2.hok.fresh (Nat.le_refl _)
 refine exc_set I2.kIn xs hx rfl rfl rfl λ h' tk g1 g2 g3=>?_
 have J:Inv X pins σ (upd H2 e (XE C e s2.heap.objs.size t)) {s2 with heap:=h',toks:=tk}:=I2.write (x:=e) (e:=e) (by rw[he];exact True.intro) (.inl rfl) g3 ⟨_,g1⟩ (xe_ok g1)
 refine⟨σ,_,J.track (a:=s2.heap.objs.size) (o:=.xd [(f,y)]) (Heap.get?_none_of_le I2.sz) (by rw[upd_ne nd];exact hd0) ?_ (λ z c hc w=>?_) (λ p hp w=>?_) ⟨_,g2,λ g=>?_⟩,q2 _ hd0 nd⟩
 ·exact Nat.ne_of_gt I2.lt
 ·obtain⟨v,o,y1,y2⟩:=I2.cell z c hc
  exact Nat.ne_of_lt (Heap.lt_size y1) w
 ·exact Nat.ne_of_lt (Heap.lt_size (I2.pin p hp).1) w
 ·by_cases z:g=f
  ·subst z
   rw[if_pos rfl]
   have:List.lookup g [(g,y)]=some y:=by simp [List.lookup]
   rw[this]
   exact ry
  ·rw[if_neg z]
   have hb:(g == f)=false:=beq_eq_false_iff_ne.mpr z
   have:List.lookup g [(f,y)]=none:=by simp only[List.lookup,hb]
   rw[this]
   exact True.intro
noncomputable def xinitIn (K:Frag) (C f:Addr):Bool:=match K.lookup C with
 | some ⟨.type "type",_,.cls cd,sl⟩=>(match cd.mro,sl.toList with
  | .ref C'::tl,[_,_,_,_,some (.builtin n),_]=>C' == C && n == "ValueError.__new__" && !cd.hasDel && tailIn K vbm tl && nsOkIn K cd.ns && nsIn K cd.ns "__init__" == some (some (.ref f))
  | _,_=>false)
 | _=>false
theorem ns_some_of {K:Frag}{h:Heap}{N:Addr}{mg:Str->Option Value}{n:Str}{v:Value} (X:K.In h) (G:h.Ns N mg) (e:nsIn K N n=some (some v)):mg n=some v:=by
 obtain⟨o,es,ep,ho,hd,_,hf⟩:=G
 unfold nsIn at e
 split at e
 ·rename_i c d es' n' sl q
  have:=X _ _ q
  rw[ho] at this
  cases this
  cases hd
  split at e
  ·rename_i en he
   cases e
   rw[<-hf]
   unfold nsFind findBy
   rw[<-Array.find?_toList,he]
   rfl
  ·split at e<;>cases e
 ·cases e
theorem icls_of {K:PySem.W.Frag}{h:Heap}{C f:Addr} (kin:K.In h) (z:xinitIn K C f=true) :
  ∃ (tl:List Value) (N:Addr) (nm qn:Str) (bs:List Value) (hd:Bool) (sn:List Str) (su:List Value) (ab:Bool) (co:Option Bool) (dd:Option Addr) (k0 k1 k2 k3 k5:Option Value) (mN:Str->Option Value),
   h.get? C=some (excClassObj nm qn C N bs tl hd sn su ab co dd k0 k1 k2 k3 k5 "ValueError.__new__")/\h.Ns N mN/\mN "__init__" = some (.ref f)/\OwnTail h vbm tl:=by
 unfold xinitIn at z
 split at z
 ·rename_i d0 c0 slt lk
  split at z
  ·rename_i C2 tl a0 a1 a2 a3 nn a5 em es
   simp only[Bool.and_eq_true,beq_iff_eq,Bool.not_eq_true'] at z
   obtain⟨⟨⟨⟨⟨y1,y2⟩,y3⟩,y4⟩,y5⟩,y6⟩:=z
   subst y1 y2
   obtain⟨nm,bs,mr,ns,qn,hd,sn,su,ab,co,de⟩:=c0
   dsimp only at em y3 y5 y6
   subst em y3
   have sz:slt=#[a0,a1,a2,a3,some (.builtin "ValueError.__new__"),a5]:=by
    cases slt with | mk l=>exact congrArg Array.mk es
   subst sz
   exact⟨tl,ns,nm,qn,bs,hd,sn,su,ab,co,d0,a0,a1,a2,a3,a5,_,kin _ _ lk,.of_isNs (PySem.W.isNs_of_in kin y5),ns_some_of kin (.of_isNs (PySem.W.isNs_of_in kin y5)) y6,PySem.W.tail_of_in kin y4⟩
  ·cases z
 ·cases z
structure MkX (K:PySem.W.Frag) (C f:Addr):Prop where
 ini:xinitIn K C f=true
 fn:PySem.W.isFn K (.ref f)=true
 kp:PySem.W.keepIn K (.ref C)=true
noncomputable def tMakeX (C:Addr) (sp:Sp) (t:TA):TE:=λ σ H Q=>t σ H λ vs H1=>vs.length<=sizeLine/\∀ e tt,H1 e=none->sp (.ref e::vs) (upd H1 e (XN C e tt)) (λ v H2=>v=.non/\Q (.ref e) H2) E0
section
variable {X:Cx}{k:Nat}{f C:Addr}{fd:FuncData}{ps:List Str}{sp:Sp}{E:XK}{x:Str}{p pos:Pos}{e:Expr}{es:List Expr}{t:TA}
theorem typ_fn {K:Frag}{h:Heap}{f:Addr} (kin:K.In h) (z:PySem.W.isFn K (.ref f)=true):∃ o,h.get? f=some o/\o.cls=.type "function":=by
 have z':typeIn K (.ref f)=some (.type "function"):=beq_iff_eq.mp z
 unfold typeIn at z'
 cases q:K.lookup f with
 | none=>simp [q] at z'
 | some o=>exact⟨o,kin _ _ q,by simpa [q] using z'⟩
theorem pe_makeX (dx:DefCx X) (M:MkX X.K C f) (F:FnOk X.prog X.w X.K X.mg X.base CX0 k f fd ps sp) (hr:Room (k+1) X.A) (hg:Gl X x) (hm:X.mg x=some (.ref C)) (hb:Binds X.K fd ps [])
  (ha:PA X (e::es) t) (hdb:(x == ("__debug__":Str))=false:=by decide) (he:starEach (e::es) X.env=(false,eval e X.env)::starEach es X.env:=by rfl) (hpl:(backTo pos (starEach es X.env)).any (·.1)=false:=by rfl) :
  PE X (.Call (.Name x p) (e::es) [] pos) (tMakeX C sp t):=by
 intro pins s σ H Q I h
 refine wpAny_Call_Name_kw (ld_glob I hg hm ?_ hdb)
 refine PySem.W.callWith_K (h₀:=X.base) I.ok.mod.kin M.kp (thn (ha pos pins s σ H _ I h) λ us s1 ⟨vs,H1,I1,r,hl,q⟩=>⟨I1.kIn,?_⟩) he hpl
 obtain⟨tl,N,nm,qn,bs,hd,sn,su,ab,co,dd,k0,k1,k2,k3,k5,mN,hC,hN,hni,T⟩:=icls_of I1.kIn M.ini
 obtain⟨oI,hfI,hfc⟩:=typ_fn I1.kIn M.fn
 obtain⟨hh,g,d,tk,os⟩:=s1
 refine call_init PySem.F.excBase_ValueError (by decide) PySem.F.excBase_ValueError T hC hN hni hfI hfc (λ h' a mk=>?_) (by show us.length<=sizeLine;rw[<-r.length];exact hl)
 obtain⟨n1,n2⟩:=I1.gone dx mk.new
 obtain⟨tt,ga,_,_⟩:=mk.there
 have I2:Inv X pins σ H1 ⟨h',g,d,tk,os⟩:=I1.kept mk.keeps
 have neo:∀ b o,hh.get? b=some o->b≠a:=λ b o q z=>by
  have y:=mk.new
  rw[<-z] at y
  have q':hh.get? b=some o:=q
  rw[show hh.get? b=none from y] at q'
  cases q'
 have I3:Inv X pins σ (upd H1 a (XN C a tt)) ⟨h',g,d,tk,os⟩:=I2.track (a:=a) (o:=XN C a tt) n1 n2 (λ z=>by
   obtain⟨m,⟨o,_,_,ho,_⟩,_⟩:=I1.loc
   exact neo _ _ ho z.symm) (λ y c hc z=>by
   obtain⟨v,o,y1,y2⟩:=I1.cell y c hc
   exact neo _ _ y1 z) (λ p hp z=>neo _ _ (I1.pin p hp).1 z) (xn_ok ga)
 have hq:=q a tt n2
 have r2:Vals (V.ref a::vs) (Value.ref a::us):=.cons rfl r
 have hl2:(Value.ref a::us++[]).length=ps.length:=by
  have e:=r2.length
  rw[F.len _ _ _ _ hq] at e
  rw[List.append_nil]
  exact e.symm
 have bnd:=hb ⟨h',g,d,tk,os⟩ (Value.ref a::us) I3.kIn hl2
 rw[List.append_nil] at bnd
 refine wpAny_call (codeAny_mono (F.run _ X.stack _ _ ⟨Value.ref a::us,[]⟩ (Value.ref a::us) _ _ E0 (hr.make C us []) (I3.env0.make C us []) bnd r2 hq) λ r s' hq'=>?_)
 cases r with
 | error e=>exact hq'.elim
 | ok fl =>
  cases fl with
  | ret u =>
   obtain⟨v,H',I4,rv,ev,q3⟩:=I3.after hq'
   subst ev
   exact⟨rv,⟨V.ref a,H',I4,rfl,q3⟩⟩
  | next=>exact False.elim hq'
  | brk=>exact False.elim hq'
  | cont=>exact False.elim hq'
noncomputable def tRaiseV (H0:Hp) (K:Frag) (E:XK) (t:TE):TS:=λ _ σ H=>t σ H λ v H1=>∃ e C f dx tt,v=.ref e/\H1 e=some (XE C e dx tt)/\xinitIn K C f=true/\H0 e=none/\E (.ref C) (some dx) (hid H1 e)
theorem ps_raiseV {ex:Expr}{tx:TE} (dx:DefCx X) (hr:ReachD X E) (hc:X.calm=true) (he:PE X ex tx):PS X (.Raise (some ex) none pos) (tRaiseV X.H₀ X.K E tx):=by
 intro pins s σ H D I h
 rw[arm_exec_Raise]
 simp only[evalOpt,Option.map]
 refine wpAny_bind (wpAny_standAt ?_)
 unfold raiseStmt
 refine wpAny_bind (wpAny_bind (thn (he pins s σ H _ I h) λ u s1 ⟨v,H1,I1,rv,a,C,f,dd,tt,ev,ha,hi,h0,q⟩=>wpAny_bind (wpAny_standAt (wpAny_pure ?_))))
 subst ev
 obtain rfl:u=Value.ref a:=rv
 obtain⟨tl,N,nm,qn,bs,hd,sn,su,ab,co,dd',k0,k1,k2,k3,k5,mN,hC,hN,hni,T⟩:=icls_of I1.kIn hi
 have hx:s1.heap.get? a=some {cls:=.ref C,dict:=some dd,data:=.fields (exD tt)}:=(I1.hok a _ ha).1
 have hcB:(Value.ref C::tl).contains (.type "BaseException")=true:=by rw[List.contains_cons,T.hasType (b:=true) (by decide),Bool.or_true]
 have ne:X.s₀.heap.get? a=none:=by
  cases q:X.s₀.heap.get? a with
  | none=>rfl
  | some o =>
   have y:=I1.base.free a o q h0 (by rw[dx.ex];simp)
   rw[ha] at y;cases y
 have fin:=hr pins σ (hid H1 a) s1 a tt _ (I1.untrack ha) hx rfl ne hid_self q
 obtain⟨hp,g,d,tk,os⟩:=s1
 unfold exD at hx
 repeat (first | with_reducible refine wpAny_loadPart_at hx ?_ | with_reducible refine wpAny_loadPart_at hC ?_ | (with_reducible refine wpAny_isSubtype_exc hC ?_;rw[hcB]) | wp_step)
 exact wpAny_raiseNew_none (I.ok.hd hc) fin
end
noncomputable def XOD (cls:Value) (dd:Option Addr) (e:Addr):HO:=.ext λ h=>∃ oe vs,h.get? e=some oe/\oe.cls=cls/\oe.data=.fields vs/\oe.dict=dd
noncomputable def exEndsD (i:Nat) (e:Addr) (cls:Value) (dd:Option Addr) (D:Ends):Ends:={nx:=λ σ H=>D.nx (σ.set i none) (upd H e (XOD cls dd e)),rt:=D.rt,bk:=λ σ H=>D.bk (σ.set i none) H,ct:=λ σ H=>D.ct (σ.set i none) H}
noncomputable def ETD (K:PySem.W.Frag) (CS:Addr) (i:Nat) (ts:Addr->Obj->TS) (D:Ends):St->XK:=λ σ cls dd H =>
 PySem.W.subIn K cls (.ref CS)=some true/\∀ e oe,H e=none->oe.cls=cls->ts e oe (exEndsD i e cls dd D) (σ.set i (some (.ref e))) H
noncomputable def tTryD (K:PySem.W.Frag) (CS:Addr) (i:Nat) (tb:(St->XK)->TS) (ts:Addr->Obj->TS):TS:=λ D σ H=>tb (ETD K CS i ts D) D σ H
theorem ps_tryD {X:Cx}{body:List Stmt}{b0:Stmt}{suite:List Stmt}{S n:Str}{np hpos pos:Pos}{CS:Addr}{i:Nat}{tb:(St->XK)->TS}{ts:Addr->Obj->TS} (dx:DefCx X) (hN:X.N.Nodup) (hi:X.N[i]? = some n) (hl:X.env.scope.names.lookup n=some .local)
  (hg:Gl X S) (hm:X.mg S=some (.ref CS)) (ca:Catch X.K CS)
  (hb:∀ (xe:Value->Shared->Prop) (pn:List (Addr×Obj)) (E:St->XK),PassesS (CXD X.prog X.w) (X.tried xe pn) E->PSs (X.tried xe pn) body (tb E))
  (hs:∀ (e:Addr) (oe:Obj),PSs (X.held e oe) (b0::suite) (ts e oe)) (hdb:(S == ("__debug__":Str))=false:=by decide) :
  PS X (.Try body [.ExceptHandler (some (.Name S np)) (some n) (b0::suite) hpos] [] [] pos) (tTryD X.K CS i tb ts):=by
 intro pins s σ H D I h
 have pass:PassesS (CXD X.prog X.w) (X.tried (λ e s1=>wpAny (model X.prog X.w) X.A (noteFrame e X.env) (λ _ s2=>wpAny (model X.prog X.w) X.A (setFlight e none) (λ _ s3 =>
   wpAny (model X.prog X.w) X.A (handleBy e X.env [.ExceptHandler (some (.Name S np)) (some n) (b0::suite) hpos]) (SP X pins D) X.xe s3) X.xe s2) X.xe s1) pins) (ETD X.K CS i ts D):=by
  intro pins' σ' H1 s1 e s' I' hx
  obtain⟨a,cls,dd,H',rfl,os,bare,un,hok,⟨B,t,fw,ne,hn,kB⟩,hk,q⟩:=hx
  have J:Inv X pins σ' H1 s1:=I'.untried
  have hu:∀ b∈frs X.stack,H' b=none:=λ b z=>by
   obtain⟨_,o,e0,_⟩:=J.stack.mem z
   exact un.free b o e0 (J.stkFree b z) (by simp)
  have keep5:∀ h5:Heap,B.StaysIn h5->s'.heap.UpToSlots h5->Un (frs X.stack) [] H1 H' s1.heap h5/\HOk X.prog X.w H' h5:=λ h5 st up =>
   fly_keeps un hok kB fw.2.2.1 (λ _ z=>z) (λ b z nz=>absurd z nz) hu st up
  have inv5:∀ h5:Heap,B.StaysIn h5->s'.heap.UpToSlots h5->Inv X pins σ' H' {s' with heap:=h5}:=λ h5 st up =>
   J.call' (s':={s' with heap:=h5}) (ch:=[]) os (keep5 h5 st up).1 (keep5 h5 st up).2 bare (λ b z=>absurd z (by simp))
  have neL:a≠X.env.locals:=λ z=>by
   obtain⟨m,⟨o,_,_,ho,_⟩,_⟩:=J.loc
   rw[<-z,ne] at ho;cases ho
  have nfs:a ∉ X.fs:=λ z=>by
   obtain⟨_,o,e0,_⟩:=J.funs.mem z
   rw[ne] at e0;cases e0
  have fw':FlD B (X.env::X.outer) a cls (.ref t) .none dd s'.heap:=by rw[<-dx.st];exact fw
  show wpAny (model X.prog X.w) X.A (noteFrame (.ref a) X.env) _ X.xe s'
  refine looks_d (by rw[J.ok.frames,dx.st]) dx.fr fw' λ h4 held4 up4=>?_
  refine mark_d (s:={s' with heap:=h4}) held4 λ h5 fl5 up5=>?_
  have up:=up4.trans up5
  have J5:=inv5 h5 fl5.1 up
  obtain⟨oe,vs,hoe,hoc,hod,hoD⟩:=fl5.first
  have K5:Inv (X.held a oe) pins σ' H' {s' with heap:=h5}:=J5.held hoe hn neL nfs (λ v z=>by rw[hod] at z;cases z)
  refine wpAny_handleBy_cons (codeAny_handlers_test (ld_glob K5 hg hm ?_ hdb)) (by intro z;cases z)
  refine exc_matches K5.kIn hoe ca (by rw[hoc];exact hk) ?_
  refine codeAny_handlers_suite_as ?_
  refine mark_d (s:={s' with heap:=h5}) fl5 λ h6 fl6 up6=>?_
  have J6:=inv5 h6 fl6.1 (up.trans up6)
  obtain⟨oe6,vs6,hoe6,hoc6,hod6,hoD6⟩:=fl6.first
  have K6:Inv (X.held a oe6) pins σ' H' {s' with heap:=h6}:=J6.held hoe6 hn neL nfs (λ v z=>by rw[hod6] at z;cases z)
  refine store_ok (X:=X.held a oe6) K6 hN hi (.inl hl) (v:=.ref a) rfl (λ s7 I7=>?_) (.inr hl)
  refine wpAny_mono (hs a oe6 pins s7 _ H' (exEndsD i a cls dd D) I7 (q a oe6 hn hoc6)) (λ f s8 h8=>?_) (λ _ _ z=>z.elim)
  cases f with
  | next =>
   obtain⟨σ8,H8,I8,q8⟩:=h8
   refine goes (X:=X.held a oe6) I8 hN hi hl λ s9 I9=>⟨_,_,(I9.unheld I.ok.hd).track (a:=a) (o:=XOD cls dd a) (J.gone dx ne).1 ?_ neL (λ x c e z=>?_) (λ p hp z=>?_) ⟨⟨oe6,vs6,I9.heldAt,hoc6,hod6,hoD6⟩,⟨oe6,I9.heldAt⟩,λ h1 h2 ⟨o,vs,y1,y2⟩ k=>⟨o,vs,k o y1,y2⟩⟩,q8⟩
   ·exact (I9.pin (a,oe6) (List.mem_append_left _ List.mem_cons_self)).2.1
   ·subst z
    obtain⟨v,o,y1,y2⟩:=I9.cell x c e
    have y3:=(I9.pin (c,oe6) (List.mem_append_left _ List.mem_cons_self)).2.2.2.2 v
    have y4:s9.heap.get? c=some oe6:=I9.heldAt
    rw[y4] at y1
    cases y1
    exact y3 y2
   ·have y:=(J.pin p hp).1
    rw[z,ne] at y
    cases y
  | brk =>
   obtain⟨σ8,H8,I8,q8⟩:=h8
   exact goes (X:=X.held a oe6) I8 hN hi hl λ s9 I9=>⟨_,_,I9.unheld I.ok.hd,q8⟩
  | cont =>
   obtain⟨σ8,H8,I8,q8⟩:=h8
   exact goes (X:=X.held a oe6) I8 hN hi hl λ s9 I9=>⟨_,_,I9.unheld I.ok.hd,q8⟩
  | ret u =>
   obtain⟨v8,σ8,H8,I8,r8,q8⟩:=h8
   exact goes (X:=X.held a oe6) I8 hN hi hl λ s9 I9=>⟨_,_,_,I9.unheld I.ok.hd,r8,q8⟩
 refine wpAny_Try_except (wpAny_mono (hb _ pins _ pass [] s σ H D I.tried h) (λ f s1 hf=>?_) λ e s1 he=>he)
 cases f with
 | next =>
  obtain⟨σ',H',J,q⟩:=hf
  exact wpAny_execs_nil ⟨σ',H',J.untried,q⟩
 | brk =>
  obtain⟨σ',H',J,q⟩:=hf
  exact⟨σ',H',J.untried,q⟩
 | cont =>
  obtain⟨σ',H',J,q⟩:=hf
  exact⟨σ',H',J.untried,q⟩
 | ret u =>
  obtain⟨v,σ',H',J,r,q⟩:=hf
  exact⟨v,σ',H',J.untried,r,q⟩
section
variable {X:Cx}
theorem Inv.xod {pins:List (Addr×Obj)}{σ:St}{H:Hp}{s:Shared}{e:Addr}{cls:Value}{dd:Option Addr} (I:Inv X pins σ H s) (h:H e=some (XOD cls dd e)):∃ oe vs,s.heap.get? e=some oe/\oe.cls=cls/\oe.data=.fields vs/\oe.dict=dd:=(show ObjOk X.prog X.w H s.heap e (XOD cls dd e) from I.hok e _ h).1
theorem call_isinstF:CallR X (.builtin "isinstance") (λ xs H Q=>∃ (e C D:Addr) (dd:Option Addr) (b:Bool),xs = [.ref e,.ref D]/\H e=some (XOD (.ref C) dd e)/\XInst X.K C/\kitOne X.K (.ref C) (.ref D)=some b/\Q (.bl b) H):=by
 intro pins s σ H xs us Q I r h
 obtain⟨e,C,D,dd,b,rfl,hc,x,k,q⟩:=h
 obtain⟨u,w',rfl,r1,r2⟩:=vals2 r
 cases r1
 cases r2
 obtain⟨oe,vs,y1,y2,_⟩:=I.xod hc
 exact kia_one (kitx_exc x) I.kIn ⟨oe,y1,y2⟩ k (λ z=>nomatch z) λ tk=>⟨.bl b,H,I.tok _,rfl,q⟩
theorem call_isinstFB:CallR X (.builtin "isinstance") (λ xs H Q=>∃ (e C:Addr) (T:String) (dd:Option Addr) (b:Bool),xs = [.ref e,.ty T]/\H e=some (XOD (.ref C) dd e)/\XInst X.K C/\kitOne X.K (.ref C) (.type T)=some b/\Q (.bl b) H):=by
 intro pins s σ H xs us Q I r h
 obtain⟨e,C,T,dd,b,rfl,hc,x,k,q⟩:=h
 obtain⟨u,w',rfl,r1,r2⟩:=vals2 r
 cases r1
 cases r2
 obtain⟨oe,vs,y1,y2,_⟩:=I.xod hc
 exact kia_one (kitx_exc x) I.kIn ⟨oe,y1,y2⟩ k (λ z=>nomatch z) λ tk=>⟨.bl b,H,I.tok _,rfl,q⟩
noncomputable def tAttrX (K:Frag) (ta:TE) (f:Str):TE:=λ σ H Q=>ta σ H λ x H1=>∃ a C dx fs v,x=.ref a/\H1 a=some (XOD (.ref C) (some dx) a)/\H1 dx=some (.xd fs)/\XGet K C f/\fs.lookup f=some v/\Q v H1
theorem pe_attrX {e:Expr}{f:Str}{pos:Pos}{ta:TE} (he:PE X e ta) (hb:attributeBase e f X.env (eval e X.env)=eval e X.env):PE X (.Attribute e f pos) (tAttrX X.K ta f):=by
 intro pins s σ H Q I h
 refine attr_of hb (thn (he pins s σ H _ I h) λ u s1 ⟨x,H1,I1,rx,a,C,dx,fs,v,ex,ea,ed,g,l,q⟩=>?_)
 subst ex
 obtain rfl:u=Value.ref a:=rx
 obtain⟨oe,vs,y1,y2,y3,y4⟩:=I1.xod ea
 obtain⟨mA,n1,r⟩:=(show ObjOk X.prog X.w H1 s1.heap dx (.xd fs) from I1.hok dx _ ed)
 obtain⟨u,hu,ru⟩:=RelO.some_of (v:=v) (o:=mA f) (by rw[<-l];exact r f)
 exact exc_get I1.kIn g y1 y2 y3 y4 n1 hu (handed_of ru) ⟨v,H1,I1.tok _,ru,q⟩
end
end L2
set_option maxHeartbeats 4000000
namespace L2
open PySem PySem.Spec PySem.W PyProof.Rows
theorem ps_raiseD {X:Cx}{E:XK}{x:Str}{C:Addr}{np cpos pos:Pos}{e:Expr}{es:List Expr}{t:TA} (dx:DefCx X) (hr:ReachD X E) (hc:X.calm=true) (xc:XCls X.K X.mg x C) (hg:Gl X x) (ha:PA X (e::es) t)
  (hdb:(x == ("__debug__":Str))=false:=by decide) (he:starEach (e::es) X.env=(false,eval e X.env)::starEach es X.env:=by rfl) (hpl:(backTo cpos (starEach es X.env)).any (·.1)=false:=by rfl) :
  PS X (.Raise (some (.Call (.Name x np) (e::es) [] cpos)) none pos) (tRaise C E t):=by
 intro pins s σ H D I h
 obtain⟨tl,N,nm,qn,bs,hd,sn,su,ab,co,dd,k0,k1,k2,k3,k5,mN,hC,hN,hni,T⟩:=cls_of I.mod.kin xc.ok
 refine wpAny_Raise_call_subT (C:=C) (nm:=nm) (q:=qn) (N:=N) (bs:=bs) (bm:=tl) (hdct:=hd) (sn:=sn) (sub:=su) (ab:=ab) (col:=co) (dd:=dd) (k0:=k0) (k1:=k1) (k2:=k2) (k3:=k3) (k5:=k5)
  PySem.F.excBase_ValueError (mN:=mN) (T.hasType PySem.F.excBase_ValueError.hasBase) (I.ok.hd hc) (by rw[he];show (false || _)=false;exact hpl) hni (ld_glob I hg xc.at_ ⟨rfl,?_⟩ hdb)
 have h2:=ha cpos pins s σ H _ I h
 rw[he] at h2 ⊢
 refine Calls.evalArgs_plain (wpAny_mono h2 (λ us s2 ⟨vs,H1,I1,rv,hl,q⟩=>⟨rfl,by rw[<-rv.length];exact hl,I1.bk _ _ hC,hN.keeps I1.bk,T.keeps I1.bk,λ h' e mk=>?_⟩) λ _ _ y=>y)
 obtain⟨tt,ga,_,_⟩:=mk.there
 obtain⟨n1,n2⟩:=I1.gone dx mk.new
 obtain⟨hh,g,d,tk,os⟩:=s2
 exact hr pins σ H1 ⟨h',g,d,tk,os⟩ e tt _ (I1.kept mk.keeps) ga rfl n1 n2 q
end L2
set_option maxHeartbeats 4000000
namespace L2
open PySem PySem.Spec PySem.W PyProof.Rows
theorem exc_matchesB {prog:Program}{w:World}{A:Around}{E:Value->Shared->Prop}{s:Shared}{K:Frag}{e CS:Addr}{oe:Obj}{b:Bool}{Q:Bool->Shared->Prop} (kin:K.In s.heap) (he:s.heap.get? e=some oe) (ca:Catch K CS)
  (hC:subIn K oe.cls (.ref CS)=some b) (hq:Q b s):wpAny (model prog w) A (excMatches (.ref e) (.ref CS)) Q E s:=by
 obtain⟨hh,g,d,tk,os⟩:=s
 have L1:Looks (model prog w) hh (typeOf (.ref CS)) (.type "type"):=looks_typeIn kin ca.ty
 have L2:Looks (model prog w) hh (isType (.ref CS)) true:=looks_isType kin ca.isc
 have L3:Looks (model prog w) hh (isSubtype oe.cls (.ref CS)) b:=looks_subIn kin hC
 have L4:Looks (model prog w) hh (isInstance (.ref CS) (.type "tuple")) false:=L1.andThen (Looks.of_pure tc_notTuple)
 have L5:Looks (model prog w) hh (isExcClass (.ref CS)) true:=L2.andThen (looks_subIn kin ca.base)
 have L6:Looks (model prog w) hh (typeOf (.ref e)) oe.cls:=(Looks.ld he).andThen .now
 unfold excMatches
 refine wpAny_bind (L4.at ?_)
 simp only[Bool.false_eq_true,if_false]
 refine wpAny_bind (wpAny_pure ?_)
 simp only[List.forIn_cons,List.forIn_nil]
 refine wpAny_bind (wpAny_bind (wpAny_bind (L5.at ?_)))
 simp only[Bool.not_true,Bool.false_eq_true,if_false]
 refine wpAny_pure (wpAny_pure (wpAny_bind (L6.at ?_)))
 refine wpAny_bind (wpAny_bind (wpAny_bind (L3.at ?_)))
 cases b with
 | true =>
  simp only[if_true]
  exact wpAny_pure (wpAny_pure (wpAny_pure hq))
 | false =>
  simp only[Bool.false_eq_true,if_false]
  exact wpAny_pure (wpAny_pure (wpAny_pure hq))
noncomputable def ETD2 (K:PySem.W.Frag) (CS1 CS2:Addr) (i:Nat) (ts1 ts2:Addr->Obj->TS) (D:Ends):St->XK:=λ σ cls dd H=>∃ b,PySem.W.subIn K cls (.ref CS1)=some b/\(b=false->PySem.W.subIn K cls (.ref CS2)=some true) /\
 (b=true->∀ e oe,H e=none->oe.cls=cls->ts1 e oe (exEndsD i e cls dd D) (σ.set i (some (.ref e))) H)/\(b=false->∀ e oe,H e=none->oe.cls=cls->ts2 e oe (exEndsD i e cls dd D) (σ.set i (some (.ref e))) H)
noncomputable def tTryD2 (K:PySem.W.Frag) (CS1 CS2:Addr) (i:Nat) (tb:(St->XK)->TS) (ts1 ts2:Addr->Obj->TS):TS:=λ D σ H=>tb (ETD2 K CS1 CS2 i ts1 ts2 D) D σ H
theorem ps_tryD2 {X:Cx}{body:List Stmt}{b01 b02:Stmt}{suite1 suite2:List Stmt}{S1 S2 n:Str}{np1 np2 hpos1 hpos2 pos:Pos}{CS1 CS2:Addr}{i:Nat}{tb:(St->XK)->TS}{ts1 ts2:Addr->Obj->TS} (dx:DefCx X) (hN:X.N.Nodup) (hi:X.N[i]? = some n) (hl:X.env.scope.names.lookup n=some .local)
  (hg1:Gl X S1) (hm1:X.mg S1=some (.ref CS1)) (ca1:Catch X.K CS1) (hg2:Gl X S2) (hm2:X.mg S2=some (.ref CS2)) (ca2:Catch X.K CS2)
  (hb:∀ (xe:Value->Shared->Prop) (pn:List (Addr×Obj)) (E:St->XK),PassesS (CXD X.prog X.w) (X.tried xe pn) E->PSs (X.tried xe pn) body (tb E))
  (hs1:∀ (e:Addr) (oe:Obj),PSs (X.held e oe) (b01::suite1) (ts1 e oe)) (hs2:∀ (e:Addr) (oe:Obj),PSs (X.held e oe) (b02::suite2) (ts2 e oe)) (hdb1:(S1 == ("__debug__":Str))=false:=by decide) (hdb2:(S2 == ("__debug__":Str))=false:=by decide) :
  PS X (.Try body [.ExceptHandler (some (.Name S1 np1)) (some n) (b01::suite1) hpos1,.ExceptHandler (some (.Name S2 np2)) (some n) (b02::suite2) hpos2] [] [] pos) (tTryD2 X.K CS1 CS2 i tb ts1 ts2):=by
 intro pins s σ H D I h
 have pass:PassesS (CXD X.prog X.w) (X.tried (λ e s1=>wpAny (model X.prog X.w) X.A (noteFrame e X.env) (λ _ s2=>wpAny (model X.prog X.w) X.A (setFlight e none) (λ _ s3 =>
   wpAny (model X.prog X.w) X.A (handleBy e X.env [.ExceptHandler (some (.Name S1 np1)) (some n) (b01::suite1) hpos1,.ExceptHandler (some (.Name S2 np2)) (some n) (b02::suite2) hpos2]) (SP X pins D) X.xe s3) X.xe s2) X.xe s1) pins) (ETD2 X.K CS1 CS2 i ts1 ts2 D):=by
  intro pins' σ' H1 s1 e s' I' hx
  obtain⟨a,cls,dd,H',rfl,os,bare,un,hok,⟨B,t,fw,ne,hn,kB⟩,b1,hk1,hk,q1,q2⟩:=hx
  have J:Inv X pins σ' H1 s1:=I'.untried
  have hu:∀ b∈frs X.stack,H' b=none:=λ b z=>by
   obtain⟨_,o,e0,_⟩:=J.stack.mem z
   exact un.free b o e0 (J.stkFree b z) (by simp)
  have keep5:∀ h5:Heap,B.StaysIn h5->s'.heap.UpToSlots h5->Un (frs X.stack) [] H1 H' s1.heap h5/\HOk X.prog X.w H' h5:=λ h5 st up =>
   fly_keeps un hok kB fw.2.2.1 (λ _ z=>z) (λ b z nz=>absurd z nz) hu st up
  have inv5:∀ h5:Heap,B.StaysIn h5->s'.heap.UpToSlots h5->Inv X pins σ' H' {s' with heap:=h5}:=λ h5 st up =>
   J.call' (s':={s' with heap:=h5}) (ch:=[]) os (keep5 h5 st up).1 (keep5 h5 st up).2 bare (λ b z=>absurd z (by simp))
  have neL:a≠X.env.locals:=λ z=>by
   obtain⟨m,⟨o,_,_,ho,_⟩,_⟩:=J.loc
   rw[<-z,ne] at ho;cases ho
  have nfs:a ∉ X.fs:=λ z=>by
   obtain⟨_,o,e0,_⟩:=J.funs.mem z
   rw[ne] at e0;cases e0
  have fw':FlD B (X.env::X.outer) a cls (.ref t) .none dd s'.heap:=by rw[<-dx.st];exact fw
  show wpAny (model X.prog X.w) X.A (noteFrame (.ref a) X.env) _ X.xe s'
  refine looks_d (by rw[J.ok.frames,dx.st]) dx.fr fw' λ h4 held4 up4=>?_
  refine mark_d (s:={s' with heap:=h4}) held4 λ h5 fl5 up5=>?_
  have up:=up4.trans up5
  have J5:=inv5 h5 fl5.1 up
  obtain⟨oe,vs,hoe,hoc,hod,hoD⟩:=fl5.first
  have K5:Inv (X.held a oe) pins σ' H' {s' with heap:=h5}:=J5.held hoe hn neL nfs (λ v z=>by rw[hod] at z;cases z)
  refine wpAny_handleBy_cons (codeAny_handlers_test (ld_glob K5 hg1 hm1 ?_ hdb1)) (by intro z;cases z)
  refine exc_matchesB K5.kIn hoe ca1 (b:=b1) (by rw[hoc];exact hk1) ?_
  cases b1 with
  | true =>
   refine codeAny_handlers_suite_as ?_
   refine mark_d (s:={s' with heap:=h5}) fl5 λ h6 fl6 up6=>?_
   have J6:=inv5 h6 fl6.1 (up.trans up6)
   obtain⟨oe6,vs6,hoe6,hoc6,hod6,hoD6⟩:=fl6.first
   have K6:Inv (X.held a oe6) pins σ' H' {s' with heap:=h6}:=J6.held hoe6 hn neL nfs (λ v z=>by rw[hod6] at z;cases z)
   refine store_ok (X:=X.held a oe6) K6 hN hi (.inl hl) (v:=.ref a) rfl (λ s7 I7=>?_) (.inr hl)
   refine wpAny_mono (hs1 a oe6 pins s7 _ H' (exEndsD i a cls dd D) I7 (q1 rfl a oe6 hn hoc6)) (λ f s8 h8=>?_) (λ _ _ z=>z.elim)
   cases f with
   | next =>
    obtain⟨σ8,H8,I8,q8⟩:=h8
    refine goes (X:=X.held a oe6) I8 hN hi hl λ s9 I9=>⟨_,_,(I9.unheld I.ok.hd).track (a:=a) (o:=XOD cls dd a) (J.gone dx ne).1 ?_ neL (λ x c e z=>?_) (λ p hp z=>?_) ⟨⟨oe6,vs6,I9.heldAt,hoc6,hod6,hoD6⟩,⟨oe6,I9.heldAt⟩,λ h1 h2 ⟨o,vs,y1,y2⟩ k=>⟨o,vs,k o y1,y2⟩⟩,q8⟩
    ·exact (I9.pin (a,oe6) (List.mem_append_left _ List.mem_cons_self)).2.1
    ·subst z
     obtain⟨v,o,y1,y2⟩:=I9.cell x c e
     have y3:=(I9.pin (c,oe6) (List.mem_append_left _ List.mem_cons_self)).2.2.2.2 v
     have y4:s9.heap.get? c=some oe6:=I9.heldAt
     rw[y4] at y1
     cases y1
     exact y3 y2
    ·have y:=(J.pin p hp).1
     rw[z,ne] at y
     cases y
   | brk =>
    obtain⟨σ8,H8,I8,q8⟩:=h8
    exact goes (X:=X.held a oe6) I8 hN hi hl λ s9 I9=>⟨_,_,I9.unheld I.ok.hd,q8⟩
   | cont =>
    obtain⟨σ8,H8,I8,q8⟩:=h8
    exact goes (X:=X.held a oe6) I8 hN hi hl λ s9 I9=>⟨_,_,I9.unheld I.ok.hd,q8⟩
   | ret u =>
    obtain⟨v8,σ8,H8,I8,r8,q8⟩:=h8
    exact goes (X:=X.held a oe6) I8 hN hi hl λ s9 I9=>⟨_,_,_,I9.unheld I.ok.hd,r8,q8⟩
  | false =>
   show wpAny (model X.prog X.w) X.A (handleBy (.ref a) X.env [.ExceptHandler (some (.Name S2 np2)) (some n) (b02::suite2) hpos2]) _ _ _
   refine wpAny_handleBy_cons (codeAny_handlers_test (ld_glob K5 hg2 hm2 ?_ hdb2)) (by intro z;cases z)
   refine exc_matchesB K5.kIn hoe ca2 (b:=true) (by rw[hoc];exact hk rfl) ?_
   refine codeAny_handlers_suite_as ?_
   refine mark_d (s:={s' with heap:=h5}) fl5 λ h6 fl6 up6=>?_
   have J6:=inv5 h6 fl6.1 (up.trans up6)
   obtain⟨oe6,vs6,hoe6,hoc6,hod6,hoD6⟩:=fl6.first
   have K6:Inv (X.held a oe6) pins σ' H' {s' with heap:=h6}:=J6.held hoe6 hn neL nfs (λ v z=>by rw[hod6] at z;cases z)
   refine store_ok (X:=X.held a oe6) K6 hN hi (.inl hl) (v:=.ref a) rfl (λ s7 I7=>?_) (.inr hl)
   refine wpAny_mono (hs2 a oe6 pins s7 _ H' (exEndsD i a cls dd D) I7 (q2 rfl a oe6 hn hoc6)) (λ f s8 h8=>?_) (λ _ _ z=>z.elim)
   cases f with
   | next =>
    obtain⟨σ8,H8,I8,q8⟩:=h8
    refine goes (X:=X.held a oe6) I8 hN hi hl λ s9 I9=>⟨_,_,(I9.unheld I.ok.hd).track (a:=a) (o:=XOD cls dd a) (J.gone dx ne).1 ?_ neL (λ x c e z=>?_) (λ p hp z=>?_) ⟨⟨oe6,vs6,I9.heldAt,hoc6,hod6,hoD6⟩,⟨oe6,I9.heldAt⟩,λ h1 h2 ⟨o,vs,y1,y2⟩ k=>⟨o,vs,k o y1,y2⟩⟩,q8⟩
    ·exact (I9.pin (a,oe6) (List.mem_append_left _ List.mem_cons_self)).2.1
    ·subst z
     obtain⟨v,o,y1,y2⟩:=I9.cell x c e
     have y3:=(I9.pin (c,oe6) (List.mem_append_left _ List.mem_cons_self)).2.2.2.2 v
     have y4:s9.heap.get? c=some oe6:=I9.heldAt
     rw[y4] at y1
     cases y1
     exact y3 y2
    ·have y:=(J.pin p hp).1
     rw[z,ne] at y
     cases y
   | brk =>
    obtain⟨σ8,H8,I8,q8⟩:=h8
    exact goes (X:=X.held a oe6) I8 hN hi hl λ s9 I9=>⟨_,_,I9.unheld I.ok.hd,q8⟩
   | cont =>
    obtain⟨σ8,H8,I8,q8⟩:=h8
    exact goes (X:=X.held a oe6) I8 hN hi hl λ s9 I9=>⟨_,_,I9.unheld I.ok.hd,q8⟩
   | ret u =>
    obtain⟨v8,σ8,H8,I8,r8,q8⟩:=h8
    exact goes (X:=X.held a oe6) I8 hN hi hl λ s9 I9=>⟨_,_,_,I9.unheld I.ok.hd,r8,q8⟩
 refine wpAny_Try_except (wpAny_mono (hb _ pins _ pass [] s σ H D I.tried h) (λ f s1 hf=>?_) λ e s1 he=>he)
 cases f with
 | next =>
  obtain⟨σ',H',J,q⟩:=hf
  exact wpAny_execs_nil ⟨σ',H',J.untried,q⟩
 | brk =>
  obtain⟨σ',H',J,q⟩:=hf
  exact⟨σ',H',J.untried,q⟩
 | cont =>
  obtain⟨σ',H',J,q⟩:=hf
  exact⟨σ',H',J.untried,q⟩
 | ret u =>
  obtain⟨v,σ',H',J,r,q⟩:=hf
  exact⟨v,σ',H',J.untried,r,q⟩
end L2
set_option maxHeartbeats 4000000
namespace L2
open PySem PySem.Spec PyProof.Rows
end L2
set_option maxHeartbeats 4000000
namespace K28
open PySem L2 Gc Ch
seal wpAny
noncomputable def top (i:Nat):Stmt:=PySem.Challenge.pw_surestretch_k28_not_made_tight.main.body.getD i (.Pass ⟨0,0,0,0⟩)
noncomputable abbrev s_whole:Stmt:=top 11
noncomputable abbrev s_share:Stmt:=top 12
noncomputable abbrev s_wpair:Stmt:=top 13
noncomputable abbrev s_cd:Stmt:=top 14
noncomputable abbrev s_frac:Stmt:=top 15
noncomputable abbrev s_plus:Stmt:=top 16
noncomputable abbrev s_minus:Stmt:=top 17
noncomputable abbrev s_und:Stmt:=top 18
noncomputable abbrev s_cho:Stmt:=top 20
noncomputable abbrev s_pow:Stmt:=top 22
noncomputable abbrev s_wtop:Stmt:=top 23
noncomputable abbrev s_rsum:Stmt:=top 24
noncomputable abbrev s_ruleof:Stmt:=top 26
noncomputable abbrev s_rowof:Stmt:=top 27
noncomputable abbrev s_str:Stmt:=top 28
noncomputable abbrev s_held:Stmt:=top 29
noncomputable abbrev s_rov:Stmt:=top 30
noncomputable abbrev s_cov:Stmt:=top 31
noncomputable abbrev s_sor:Stmt:=top 32
noncomputable abbrev s_edges:Stmt:=top 33
noncomputable abbrev s_pieces:Stmt:=top 34
noncomputable abbrev s_with:Stmt:=top 35
noncomputable abbrev s_least:Stmt:=top 37
noncomputable abbrev s_lpl:Stmt:=top 38
noncomputable abbrev s_sure:Stmt:=top 39
noncomputable abbrev s_lack:Stmt:=top 40
noncomputable abbrev s_lks:Stmt:=top 41
noncomputable abbrev s_shb:Stmt:=top 42
noncomputable abbrev s_sim:Stmt:=top 43
noncomputable abbrev s_wterm:Stmt:=top 44
noncomputable abbrev s_mov:Stmt:=top 46
noncomputable abbrev s_we:Stmt:=top 47
noncomputable abbrev s_tgt:Stmt:=top 48
noncomputable abbrev s_swm:Stmt:=top 49
noncomputable abbrev s_mt:Stmt:=top 50
noncomputable abbrev s_cell:Stmt:=top 53
noncomputable abbrev s_stream:Stmt:=top 54
noncomputable abbrev s_dv:Stmt:=top 55
noncomputable abbrev s_low:Stmt:=top 56
noncomputable abbrev s_nm:Stmt:=top 57
noncomputable abbrev s_pows:Stmt:=top 59
noncomputable abbrev s_chs:Stmt:=top 60
noncomputable abbrev s_cvr:Stmt:=top 61
noncomputable abbrev s_stp:Stmt:=top 58
noncomputable abbrev s_spn:Stmt:=top 51
noncomputable abbrev s_lsh:Stmt:=top 62
noncomputable abbrev s_noo:Stmt:=top 63
noncomputable abbrev s_tld:Stmt:=top 64
noncomputable abbrev s_ltg:Stmt:=top 65
noncomputable abbrev s_rgt:Stmt:=top 66
noncomputable abbrev s_law:Stmt:=top 67
noncomputable def clsBody (s:Stmt):List Stmt:=match s with
 | .ClassDef _ _ _ b _ _ _ _ _ _ _=>b
 | _=>[]
noncomputable abbrev s_ini:Stmt:=(clsBody (top 4)).getD 0 (.Pass ⟨0,0,0,0⟩)
structure Txt (mg:Str->Option Value):Prop where
 range:mg "range" = none
 min:mg "min" = none
 max:mg "max" = none
 len:mg "len" = none
 isinstance:mg "isinstance" = none
 int:mg "int" = none
 bool:mg "bool" = none
 tuple:mg "tuple" = none
 abs:mg "abs" = none
 all:mg "all" = none
 zip:mg "zip" = none
 sum:mg "sum" = none
 list:mg "list" = none
 sorted:mg "sorted" = none
 reversed:mg "reversed" = none
 ValueError:mg "ValueError" = none
structure CA where
 StretchError:Addr
 NoNumber:Addr
 NoRule:Addr
 NotSure:Addr
 TooMuch:Addr
 NoPlan:Addr
 NoText:Addr
 NoName:Addr
 NoRow:Addr
 ini:Addr
structure CF (K:PySem.W.Frag) (mg:Str->Option Value) (C:CA):Prop where
 mStretchError:mg "StretchError" = some (.ref C.StretchError)
 mNoNumber:mg "NoNumber" = some (.ref C.NoNumber)
 mNoRule:mg "NoRule" = some (.ref C.NoRule)
 mNotSure:mg "NotSure" = some (.ref C.NotSure)
 mTooMuch:mg "TooMuch" = some (.ref C.TooMuch)
 mNoPlan:mg "NoPlan" = some (.ref C.NoPlan)
 mNoText:mg "NoText" = some (.ref C.NoText)
 mNoName:mg "NoName" = some (.ref C.NoName)
 mNoRow:mg "NoRow" = some (.ref C.NoRow)
 xNoRule:XCls K mg "NoRule" C.NoRule
 xNoNumber:XCls K mg "NoNumber" C.NoNumber
 xTooMuch:XCls K mg "TooMuch" C.TooMuch
 cNoRule:Catch K C.NoRule
 cStretchError:Catch K C.StretchError
 cTooMuch:Catch K C.TooMuch
 cNotSure:Catch K C.NotSure
 iNoRule:XInst K C.NoRule
 iNoNumber:XInst K C.NoNumber
 iTooMuch:XInst K C.TooMuch
 kNotSure:MkX K C.NotSure C.ini
 sNotSure:XSet K C.NotSure "at"
 gNotSure:XGet K C.NotSure "at"
 iNotSure:XInst K C.NotSure
 sub:PySem.W.subIn K (.ref C.NoRule) (.ref C.NoRule)=some true
 suTooMuchS:PySem.W.subIn K (.ref C.TooMuch) (.ref C.StretchError)=some true
 suNotSureS:PySem.W.subIn K (.ref C.NotSure) (.ref C.StretchError)=some true
 suTT:PySem.W.subIn K (.ref C.TooMuch) (.ref C.TooMuch)=some true
 suNT:PySem.W.subIn K (.ref C.NotSure) (.ref C.TooMuch)=some false
 suNN:PySem.W.subIn K (.ref C.NotSure) (.ref C.NotSure)=some true
 kTooMuchNoName:PySem.W.kitOne K (.ref C.TooMuch) (.ref C.NoName)=some false
 kTooMuchNoNumber:PySem.W.kitOne K (.ref C.TooMuch) (.ref C.NoNumber)=some false
 kTooMuchNoPlan:PySem.W.kitOne K (.ref C.TooMuch) (.ref C.NoPlan)=some false
 kTooMuchNoRow:PySem.W.kitOne K (.ref C.TooMuch) (.ref C.NoRow)=some false
 kTooMuchNoRule:PySem.W.kitOne K (.ref C.TooMuch) (.ref C.NoRule)=some false
 kTooMuchNoText:PySem.W.kitOne K (.ref C.TooMuch) (.ref C.NoText)=some false
 kTooMuchS:PySem.W.kitOne K (.ref C.TooMuch) (.ref C.StretchError)=some true
 kTooMuchV:PySem.W.kitOne K (.ref C.TooMuch) (.type "ValueError")=some true
 kTooMuchTooMuch:PySem.W.kitOne K (.ref C.TooMuch) (.ref C.TooMuch)=some true
 kTooMuchNotSure:PySem.W.kitOne K (.ref C.TooMuch) (.ref C.NotSure)=some false
 kNotSureNoName:PySem.W.kitOne K (.ref C.NotSure) (.ref C.NoName)=some false
 kNotSureNoNumber:PySem.W.kitOne K (.ref C.NotSure) (.ref C.NoNumber)=some false
 kNotSureNoPlan:PySem.W.kitOne K (.ref C.NotSure) (.ref C.NoPlan)=some false
 kNotSureNoRow:PySem.W.kitOne K (.ref C.NotSure) (.ref C.NoRow)=some false
 kNotSureNoRule:PySem.W.kitOne K (.ref C.NotSure) (.ref C.NoRule)=some false
 kNotSureNoText:PySem.W.kitOne K (.ref C.NotSure) (.ref C.NoText)=some false
 kNotSureS:PySem.W.kitOne K (.ref C.NotSure) (.ref C.StretchError)=some true
 kNotSureV:PySem.W.kitOne K (.ref C.NotSure) (.type "ValueError")=some true
 kNotSureTooMuch:PySem.W.kitOne K (.ref C.NotSure) (.ref C.TooMuch)=some false
 kNotSureNotSure:PySem.W.kitOne K (.ref C.NotSure) (.ref C.NotSure)=some true
theorem passN {P:Program}{w:World}{X:Cx}:Passes (CXX P w) X E0:=λ _ _ _ _ _ _ _ h=>(cxx_never h).elim
noncomputable def isW (t:Th):Bool:=isIntT t && !isBoolT t
theorem isW_shape {t:Th} (h:isW t=true):∃ i,t=.int i:=by
 cases t<;>first | exact⟨_,rfl⟩ | (simp [isW,isIntT,isBoolT] at h)
theorem at0 {x:V}{xs:List V}:atI (x::xs) 0=some x:=atI_nat (xs:=x::xs) (j:=0) rfl
theorem at1 {x y:V}{xs:List V}:atI (x::y::xs) 1=some y:=atI_nat (xs:=x::y::xs) (j:=1) rfl
theorem den_pair {H:Hp}{a b:Int}{v:V} (d:Den H (.tup [.int a,.int b]) v):∃ p,v=.ref p/\H p=some (.tup [.int a,.int b]):=by
 obtain⟨p,xs,rfl,h,y,ys,e1,e2,z,zs,e3,e4,e5⟩:=d
 have e2':y=V.int a:=e2
 have e4':z=V.int b:=e4
 have e5':zs = []:=e5
 subst e5' e4' e3 e2' e1
 exact⟨p,rfl,h⟩
theorem getD_mem {α:Type}{l:List α}{i:Nat}{d:α} (h:i<l.length):l.getD i d∈l:=by rw[getD_in h];exact List.getElem_mem h
theorem den_p {H:Hp}{p:Addr}{a b:Int} (h:H p=some (.tup [.int a,.int b])):Den H (.tup [.int a,.int b]) (.ref p):=⟨p,_,rfl,h,_,_,rfl,rfl,_,_,rfl,rfl,rfl⟩
theorem den2 {H:Hp}{p:Addr}{x y:V}{a b:Th} (h:H p=some (.tup [x,y])) (d1:Den H a x) (d2:Den H b y):Den H (.tup [a,b]) (.ref p):=⟨p,_,rfl,h,_,_,rfl,d1,_,_,rfl,d2,rfl⟩
theorem _root_.Gc.Sz.smk {n:Nat}{i:Int} (h:Sz n i) (hn:n<=8900):Smk i:=h.mono hn
theorem lt40 {n:Nat} (h:n<=40):n<sizeLine:=Nat.lt_of_le_of_lt h (by decide)
section
variable {P:Program}{w:World}{K:PySem.W.Frag}{mg:Str->Option Value}{base:Heap}{TB:Addr}
noncomputable def spCho:Sp:=λ vs H Q _=>∃ n k:Int,vs = [.int n,.int k]/\n<=100/\Q (.int (cho n k)) H
theorem sc_cho:FnScope ["n","k","ways","taken"] ["n","k"] (defScope s_cho):=⟨rfl,rfl,rfl,by decide +kernel,rfl,by decide +kernel,by decide +kernel⟩
theorem ok_cho {f:Addr}{fd:FuncData} (F:Fun K "choices" "choices" s_cho f fd) (T:Txt mg):FnOk P w K mg base CX0 1 f fd ["n","k"] spCho:=by
 refine F.ok sc_cho (λ vs H Q E h=>?_) (λ cdv A outer s H vs Q E hr h=>?_)
 ·obtain⟨n,k,rfl,_⟩:=h
  rfl
 obtain⟨n,k,rfl,hn,q⟩:=h
 refine⟨_,(pss_cons (ps_if (PW.pt (pw_or (pt_cmpR op_lt (pv 1) pe_int (nomark _)) (pw_or1 (pt_cmpR op_gt (pv 1) (pv 0) (nomark _))))) (pss_one (ps_ret pe_int)) pss_nil)
  (pss_cons (ps_set (i:=2) sc_cho.nd rfl (Or.inl rfl) pe_int)
  (pss_cons (ps_for PassesOwn.never rfl (pi_range1 rfl T.range (pa_cons (pe_callB (call_min2 rfl) rfl T.min boot_min (pa_cons (pv 1) (pa_cons (pe_op op_sub (pv 0) (pv 1)) pa_nil))) pa_nil)) (pg_name (i:=3) sc_cho.nd rfl (Or.inl rfl)) (pss_one (ps_set (i:=2) sc_cho.nd rfl (Or.inl rfl) (pe_op op_fdiv (pe_op op_mul (pv 2) (pe_op op_sub (pv 0) (pv 3))) (pe_op op_add (pv 3) pe_int)))))
  (pss_one (ps_ret (pv 2)))))),?_⟩
 refine⟨_,rfl,_,_,rfl,rfl,_,rfl,?_⟩
 refine ite2 (λ c=>?_) (λ c=>?_)
 ·have c':k<0:=of_decide_eq_true c
  refine iteT ?_
  show Q (.int 0) H
  rw[cho_out (.inl c')] at q
  exact q
 have c':¬ k<0:=ofD c
 refine⟨_,rfl,_,rfl,_,_,rfl,rfl,_,rfl,?_⟩
 refine ite2 (λ d=>?_) (λ d=>?_)
 ·have d':n<k:=of_decide_eq_true d
  show Q (.int 0) H
  rw[cho_out (.inr d')] at q
  exact q
 have d':¬ n<k:=ofD d
 refine⟨_,rfl,_,rfl,_,rfl,_,_,rfl,rfl,_,_,rfl,?_⟩
 refine⟨_,rfl,?_,?_,?_⟩
 ·split<;>omega
 ·split<;>omega
 refine for_range (lo:=0) (λ i σ H'=>H'=H/\∃ v,σ = [some (.int n),some (.int k),some (.int (binom n.toNat i:Int)),v]) ⟨rfl,none,?_⟩ ?_ ?_
 ·rw[b0]<;>rfl
 ·rintro i σ H' hi ⟨rfl,v,rfl⟩
  have hi2:(i:Int)<n:=by
   by_cases z:n-k<k
   ·rw[if_pos z] at hi;omega
   ·rw[if_neg z] at hi;omega
  have e:(binom n.toNat i:Int)*(n-(0+(i:Int))) / (0+(i:Int)+1)=(binom n.toNat (i+1):Int):=by
   rw[Int.zero_add];exact cho_turn hi2
  refine⟨_,rfl,_,rfl,_,rfl,_,_,rfl,rfl,_,_,rfl,rfl,.inr ⟨?_,?_⟩,_,rfl,_,_,rfl,rfl,_,_,rfl,rfl,⟨?_,?_⟩,rfl,some (.int (0+(i:Int))),?_⟩
  ·omega
  ·omega
  ·omega
  ·omega
  rw[<-e]<;>rfl
 ·rintro σ H' ⟨rfl,v,rfl⟩
  refine⟨_,rfl,?_⟩
  rw[<-cho_min (by omega) (by omega)] at q
  exact q
noncomputable def spWhole:Sp:=λ vs H Q _=>∃ x t,vs = [x]/\Den H t x/\Q (.bl (isW t)) H
theorem sc_whole:FnScope ["thing"] ["thing"] (defScope s_whole):=⟨rfl,rfl,rfl,by decide +kernel,rfl,by decide +kernel,by decide +kernel⟩
theorem ok_whole {f:Addr}{fd:FuncData} (F:Fun K "is_whole" "is_whole" s_whole f fd) (T:Txt mg):FnOk P w K mg base CX0 1 f fd ["thing"] spWhole:=by
 refine F.ok sc_whole (λ vs H Q E h=>?_) (λ cdv A outer s H vs Q E hr h=>?_)
 ·obtain⟨x,t,rfl,_⟩:=h
  rfl
 obtain⟨x,t,rfl,d,q⟩:=h
 refine⟨_,(pss_one (ps_ret (pe_and (pe_callB call_isinstD rfl T.isinstance boot_isinstance (pa_cons (pv 0) (pa_cons (pe_bltn (v:=.ty "int") rfl T.int boot_int rfl) pa_nil))) (pe_one (pe_not (pe_callB call_isinstD rfl T.isinstance boot_isinstance (pa_cons (pv 0) (pa_cons (pe_bltn (v:=.ty "bool") rfl T.bool boot_bool rfl) pa_nil)))))))),?_⟩
 refine⟨_,rfl,x,t,_,_,rfl,d,kit_int t,_,rfl,?_⟩
 cases hi:isIntT t with
 | false =>
  unfold isW at q
  rw[hi,Bool.false_and] at q
  exact iteF q
 | true =>
  unfold isW at q
  rw[hi,Bool.true_and] at q
  exact iteT ⟨_,rfl,x,t,_,_,rfl,d,kit_bool t,_,rfl,q⟩
noncomputable def pairT:Th->Bool
 | .tup [a,b]=>isW a && isW b
 | _=>false
noncomputable def shareT (t:Th):Bool:=pairT t && (match t with
 | .tup [.int a,.int b]=>decide (1<=b) && (decide (0<=a) && (decide (a<=b) && decide (Int.gcd a b=1)))
 | _=>false)
theorem pair_shape {t:Th} (h:pairT t=true):∃ a b,t=.tup [.int a,.int b]:=by
 match t,h with
 | .tup [a,b],h =>
  have h':(isW a && isW b)=true:=h
  rw[Bool.and_eq_true] at h'
  obtain⟨i,rfl⟩:=isW_shape h'.1
  obtain⟨j,rfl⟩:=isW_shape h'.2
  exact⟨i,j,rfl⟩
theorem share_not {t:Th} (h:pairT t=false):shareT t=false:=by unfold shareT;rw[h];rfl
noncomputable def spWpair:Sp:=λ vs H Q _=>∃ x t,vs = [x]/\Den H t x/\Q (.bl (pairT t)) H
theorem pair_len {ts:List Th} (h:ts.length≠2):pairT (.tup ts)=false:=by
 match ts,h with
 | [],_=>rfl
 | [_],_=>rfl
 | [_,_],h=>exact absurd rfl h
 | _::_::_::_,_=>rfl
theorem sc_wpair:FnScope ["thing"] ["thing"] (defScope s_wpair):=⟨rfl,rfl,rfl,by decide +kernel,rfl,by decide +kernel,by decide +kernel⟩
theorem ok_wpair {f:Addr}{fd:FuncData} (F:Fun K "is_whole_pair" "is_whole_pair" s_wpair f fd) (T:Txt mg) {fwhole:Addr}{dwhole:FuncData} (Gwhole:FnOk P w K mg base CX0 1 fwhole dwhole ["thing"] spWhole) (bwhole:Binds K dwhole ["thing"] []) (kwhole:PySem.W.keepIn K (.ref fwhole)=true) (mwhole:mg "is_whole" = some (.ref fwhole)):FnOk P w K mg base CX0 2 f fd ["thing"] spWpair:=by
 refine F.ok sc_wpair (λ vs H Q E h=>?_) (λ cdv A outer s H vs Q E hr h=>?_)
 ·obtain⟨x,t,rfl,_⟩:=h
  rfl
 obtain⟨x,t,rfl,d,q⟩:=h
 refine⟨_,(pss_one (ps_ret (pe_and (pe_callB call_isinstD rfl T.isinstance boot_isinstance (pa_cons (pv 0) (pa_cons (pe_bltn (v:=.ty "tuple") rfl T.tuple boot_tuple rfl) pa_nil))) (pe_and (pe_cmpR op_eq (pe_callB call_len_seq rfl T.len boot_len (pa_cons (pv 0) pa_nil)) pe_int (nomark _)) (pe_and (pe_call Gwhole hr rfl mwhole kwhole bwhole .nil pass0 (pa_cons (pe_ix ix_tup (pv 0) pe_int (λ _ _=>rfl)) pa_nil)) (pe_one (pe_call Gwhole hr rfl mwhole kwhole bwhole .nil pass0 (pa_cons (pe_ix ix_tup (pv 0) pe_int (λ _ _=>rfl)) pa_nil)))))))),?_⟩
 refine⟨_,rfl,x,t,_,_,rfl,d,kit_tuple t,_,rfl,?_⟩
 cases t with
 | tup ts =>
  refine iteT ?_
  obtain⟨p,xs,rfl,hH,dd⟩:=d
  refine⟨_,rfl,p,xs,rfl,.inr (SqT.of hH),rfl,_,rfl,?_⟩
  refine ite2 (λ c=>?_) (λ c=>?_)
  ·have c':V.int (xs.length:Int)=V.int 2:=of_decide_eq_true c
   have c2:xs.length=2:=by injection c' with z;omega
   rw[dd.len] at c2
   match ts,c2,dd,q with
   | [a,b],_,dd,q =>
    obtain⟨y,ys,rfl,d1,z,zs,rfl,d2,e5⟩:=dd
    have e5':zs = []:=e5
    subst e5'
    refine⟨_,rfl,p,_,0,_,rfl,rfl,SqT.of hH,at0,y,a,rfl,d1,_,rfl,?_⟩
    have q':Q (.bl (isW a && isW b)) H:=q
    cases ha:isW a with
    | false=>rw[ha,Bool.false_and] at q';exact iteF q'
    | true =>
     rw[ha,Bool.true_and] at q'
     exact iteT ⟨_,rfl,p,_,1,_,rfl,rfl,SqT.of hH,at1,z,b,rfl,d2,q'⟩
  ·have c2:ts.length≠2:=λ z=>c (decide_eq_true (by rw[dd.len,z]<;>rfl))
   rw[pair_len c2] at q
   exact q
 | non=>exact iteF q
 | bl _=>exact iteF q
 | int _=>exact iteF q
 | str _=>exact iteF q
 | lst _=>exact iteF q
 | emp=>exact iteF q
 | dic=>exact iteF q
noncomputable def spCd:Sp:=λ vs H Q _=>∃ a b:Int,vs = [.int a,.int b]/\0<=a/\0<=b/\Q (.int (Int.gcd a b)) H
noncomputable def mu2 (σ:St):Nat:=match σ with
 | _::some (.int y)::_=>y.toNat
 | _=>0
theorem sc_cd:FnScope ["one","other","rest"] ["one","other"] (defScope s_cd):=⟨rfl,rfl,rfl,by decide +kernel,rfl,by decide +kernel,by decide +kernel⟩
theorem ok_cd {f:Addr}{fd:FuncData} (F:Fun K "common_divisor" "common_divisor" s_cd f fd) (T:Txt mg):FnOk P w K mg base CX0 1 f fd ["one","other"] spCd:=by
 refine F.ok sc_cd (λ vs H Q E h=>?_) (λ cdv A outer s H vs Q E hr h=>?_)
 ·obtain⟨a,b,rfl,_⟩:=h
  rfl
 obtain⟨a,b,rfl,ha,hb,q⟩:=h
 refine⟨_,(pss_cons (ps_while PassesOwn.never (pt_cmpR op_ne (pv 1) pe_int (nomark _)) (pss_cons (ps_set (i:=2) sc_cd.nd rfl (Or.inl rfl) (pe_op op_mod (pv 0) (pv 1)))
   (pss_cons (ps_set (i:=0) sc_cd.nd rfl (Or.inl rfl) (pv 1))
   (pss_one (ps_set (i:=1) sc_cd.nd rfl (Or.inl rfl) (pv 2))))))
  (pss_one (ps_ret (pv 0)))),?_⟩
 refine while_by (λ σ H'=>H'=H/\∃ x y v,σ = [some (.int x),some (.int y),v]/\0<=x/\0<=y/\Int.gcd x y=Int.gcd a b) (λ σ _=>mu2 σ) ⟨rfl,a,b,none,rfl,ha,hb,rfl⟩ ?_ ?_
 ·rintro σ H' ⟨rfl,x,y,v,rfl,hx,hy,g⟩
  refine⟨_,rfl,rfl,_,rfl,?_⟩
  refine ite2 (λ c=>?_) (λ c=>?_)
  ·have c':y≠0:=by rintro rfl;exact absurd c (by decide)
   have hm:=Int.emod_nonneg x c'
   have hl:=Int.emod_lt_of_pos x (show 0<y by omega)
   refine⟨_,rfl,_,rfl,_,_,rfl,rfl,(by show 0<y;omega),_,rfl,_,rfl,?_⟩
   refine⟨⟨rfl,y,x%y,some (.int (x%y)),rfl,hy,hm,by rw[gstep hx hy c'];exact g⟩,?_⟩
   show (x%y).toNat<y.toNat
   omega
  ·have c':y=0:=by
    by_cases z:y=0
    ·exact z
    ·exact absurd (show (!decide (V.int y=V.int 0))=true by rw[decide_eq_false (λ w=>z (by injection w))];rfl) c
   subst c'
   refine⟨_,rfl,?_⟩
   rw[<-g,gend hx] at q
   exact q
 ·intro σ H Q Q' hq h
  obtain⟨v,e,h1,k,e2,h2⟩:=h
  exact⟨v,e,h1,k,e2,hq _ _ h2⟩
noncomputable def spShare:Sp:=λ vs H Q _=>∃ x t,vs = [x]/\Den H t x/\Q (.bl (shareT t)) H
theorem share_gcd {a b:Int}:(decide (V.int (Int.gcd a b:Int)=V.int 1))=decide (Int.gcd a b=1):=by
 apply decide_eq_decide.mpr
 constructor
 ·intro h;injection h with z;omega
 ·intro h;rw[h];rfl
theorem sc_share:FnScope ["thing","top","bottom"] ["thing"] (defScope s_share):=⟨rfl,rfl,rfl,by decide +kernel,rfl,by decide +kernel,by decide +kernel⟩
theorem ok_share {f:Addr}{fd:FuncData} (F:Fun K "is_share" "is_share" s_share f fd) (T:Txt mg) {fwpair:Addr}{dwpair:FuncData} (Gwpair:FnOk P w K mg base CX0 2 fwpair dwpair ["thing"] spWpair) (bwpair:Binds K dwpair ["thing"] []) (kwpair:PySem.W.keepIn K (.ref fwpair)=true) (mwpair:mg "is_whole_pair" = some (.ref fwpair)) {fcd:Addr}{dcd:FuncData} (Gcd:FnOk P w K mg base CX0 2 fcd dcd ["one","other"] spCd) (bcd:Binds K dcd ["one","other"] []) (kcd:PySem.W.keepIn K (.ref fcd)=true) (mcd:mg "common_divisor" = some (.ref fcd)):FnOk P w K mg base CX0 3 f fd ["thing"] spShare:=by
 refine F.ok sc_share (λ vs H Q E h=>?_) (λ cdv A outer s H vs Q E hr h=>?_)
 ·obtain⟨x,t,rfl,_⟩:=h
  rfl
 obtain⟨x,t,rfl,d,q⟩:=h
 refine⟨_,(pss_cons (ps_if (pt_not (pt_val (pe_call Gwpair hr rfl mwpair kwpair bwpair .nil pass0 (pa_cons (pv 0) pa_nil)))) (pss_one (ps_ret pe_bl)) pss_nil)
  (pss_cons (ps_set (i:=1) sc_share.nd rfl (Or.inl rfl) (pe_ix ix_tup (pv 0) pe_int (λ _ _=>rfl)))
  (pss_cons (ps_set (i:=2) sc_share.nd rfl (Or.inl rfl) (pe_ix ix_tup (pv 0) pe_int (λ _ _=>rfl)))
  (pss_one (ps_ret (pe_and (pe_cmpR op_ge (pv 2) pe_int (nomark _)) (pe_and (pe_chain op_le op_le pe_int (pv 1) (pv 2)) (pe_one (pe_cmpR op_eq (pe_call Gcd hr rfl mcd kcd bcd .nil pass0 (pa_cons (pv 1) (pa_cons (pv 2) pa_nil))) pe_int (nomark _)))))))))),?_⟩
 refine⟨_,rfl,x,t,rfl,d,_,rfl,?_⟩
 cases hp:pairT t with
 | false =>
  rw[share_not hp] at q
  exact iteT q
 | true =>
  obtain⟨a,b,rfl⟩:=pair_shape hp
  obtain⟨p,rfl,hH⟩:=den_pair d
  refine iteF ?_
  refine⟨_,rfl,p,_,0,_,rfl,rfl,SqT.of hH,at0,?_⟩
  refine⟨_,rfl,p,_,1,_,rfl,rfl,SqT.of hH,at1,?_⟩
  have q':Q (.bl (decide (1<=b) && (decide (0<=a) && (decide (a<=b) && decide (Int.gcd a b=1))))) H:=q
  refine⟨_,rfl,_,_,rfl,rfl,_,rfl,?_⟩
  refine ite2 (λ c=>?_) (λ c=>?_)
  ·rw[c,Bool.true_and] at q'
   refine⟨_,rfl,_,_,rfl,rfl,_,rfl,?_⟩
   refine ite2 (λ c2=>?_) (λ c2=>?_)
   ·rw[c2,Bool.true_and] at q'
    refine⟨_,rfl,_,_,rfl,rfl,_,rfl,?_⟩
    refine ite2 (λ c3=>?_) (λ c3=>?_)
    ·rw[c3,Bool.true_and] at q'
     refine⟨_,rfl,_,rfl,a,b,rfl,of_decide_eq_true c2,?_,rfl,?_⟩
     ·have:=of_decide_eq_true c;omega
     rw[share_gcd];exact q'
    ·rw[Bool.eq_false_iff.mpr c3,Bool.false_and] at q'
     exact q'
   ·rw[Bool.eq_false_iff.mpr c2,Bool.false_and] at q'
    exact⟨_,rfl,iteF q'⟩
  ·rw[Bool.eq_false_iff.mpr c,Bool.false_and] at q'
   exact q'
theorem kit_lt {K:PySem.W.Frag} (t:Th):PySem.W.kitAny K (tyTh t) (["list","tuple"].map Value.type)=some (isLstT t || isTupT t):=by cases t<;>rfl
noncomputable def seqOf:Th->Option (List Th)
 | .lst ts=>some ts
 | .tup ts=>some ts
 | _=>none
noncomputable def rowB (t:Th) (c:Int):Bool:=match seqOf t with
 | some ts=>decide ((ts.length:Int)=c)
 | none=>false
theorem seq_den {H:Hp}{t:Th}{ts:List Th}{v:V} (h:seqOf t=some ts) (d:Den H t v):∃ a xs,v=.ref a/\SeqAt2 H a xs/\Dens H ts xs:=by
 cases t with
 | lst us =>
  cases h
  obtain⟨a,xs,e,h1,h2⟩:=d
  exact⟨a,xs,e,.inl h1,h2⟩
 | tup us =>
  cases h
  obtain⟨a,xs,e,h1,h2⟩:=d
  exact⟨a,xs,e,.inr h1,h2⟩
 | non=>cases h
 | bl _=>cases h
 | int _=>cases h
 | str _=>cases h
 | emp=>cases h
 | dic=>cases h
theorem row_seq {t:Th}{c:Int} (h:rowB t c=true):∃ ts,seqOf t=some ts/\(ts.length:Int)=c:=by
 unfold rowB at h
 cases e:seqOf t with
 | none=>rw[e] at h;cases h
 | some ts=>rw[e] at h;exact⟨ts,rfl,of_decide_eq_true h⟩
theorem row_two {t:Th} (h:rowB t 2=true):∃ x y,seqOf t=some [x,y]:=by
 obtain⟨ts,e,l⟩:=row_seq h
 match ts,l with
 | [x,y],_=>exact⟨x,y,e⟩
theorem dec_int {a b:Int}:decide (V.int a=V.int b)=decide (a=b):=decide_eq_decide.mpr ⟨λ h=>by injection h,λ h=>by rw[h]⟩
noncomputable def spRowT:Sp:=λ vs H Q _=>∃ (x:V) (c:Int) (t:Th),vs = [x,.int c]/\Den H t x/\∀ H',Same H H'->Q (.bl (rowB t c)) H'
theorem sc_rowof:FnScope ["thing","count"] ["thing","count"] (defScope s_rowof):=⟨rfl,rfl,rfl,by decide +kernel,rfl,by decide +kernel,by decide +kernel⟩
theorem ok_rowof {f:Addr}{fd:FuncData} (F:Fun K "is_row_of" "is_row_of" s_rowof f fd) (T:Txt mg):FnOk P w K mg base CX0 1 f fd ["thing","count"] spRowT:=by
 refine F.ok sc_rowof (λ vs H Q E h=>?_) (λ cdv A outer s H vs Q E hr h=>?_)
 ·obtain⟨x,c,t,rfl,_⟩:=h
  rfl
 obtain⟨x,c,t,rfl,d,q⟩:=h
 refine⟨_,(pss_one (ps_ret (pe_and (pe_callB call_isinstT rfl T.isinstance boot_isinstance (pa_cons (pv 0) (pa_cons (pe_tup (pa_cons (pe_bltn (v:=.ty "list") rfl T.list boot_list rfl) (pa_cons (pe_bltn (v:=.ty "tuple") rfl T.tuple boot_tuple rfl) pa_nil))) pa_nil))) (pe_one (pe_cmpR op_eq (pe_callB call_len_seq rfl T.len boot_len (pa_cons (pv 0) pa_nil)) (pv 1) (nomark _)))))),?_⟩
 refine⟨_,rfl,(by show 2<=sizeLine;decide),λ p hp=>?_⟩
 have s1:=same_new hp (.tup [V.ty "list",V.ty "tuple"])
 refine⟨x,p,t,["list","tuple"],_,rfl,upd_same,d.keep s1,kit_lt t,_,rfl,?_⟩
 have q1:=q _ s1
 cases t with
 | lst ts =>
  obtain⟨a,xs,rfl,h1,dd⟩:=d
  refine iteT ⟨_,rfl,a,xs,rfl,.inl (SqL.of (s1 _ _ h1)),_,rfl,rfl,?_⟩
  show Q (.bl (decide (V.int (xs.length:Int)=V.int c))) _
  rw[dec_int,dd.len]
  exact q1
 | tup ts =>
  obtain⟨a,xs,rfl,h1,dd⟩:=d
  refine iteT ⟨_,rfl,a,xs,rfl,.inr (SqT.of (s1 _ _ h1)),_,rfl,rfl,?_⟩
  show Q (.bl (decide (V.int (xs.length:Int)=V.int c))) _
  rw[dec_int,dd.len]
  exact q1
 | non=>exact iteF q1
 | bl _=>exact iteF q1
 | int _=>exact iteF q1
 | str _=>exact iteF q1
 | emp=>exact iteF q1
 | dic=>exact iteF q1
theorem cut_tail {ws:List V} (h:1<=ws.length):cutV ws (some 1) none=ws.drop 1:=by
 have h1:HT.sIx ws.length 0 (some 1)=1:=by
  rw[show (1:Int)=((1:Nat):Int) from rfl,HT.sIx_nat]
  omega
 unfold cutV
 rw[h1,HT.sIx_none,List.take_of_length_le (by simp)]
noncomputable abbrev Fq:=Int×Int
noncomputable abbrev Sq:=Fq×Fq
noncomputable def ppT (p:Fq):Th:=.tup [.int p.1,.int p.2]
noncomputable def ssT (s:Sq):Th:=.tup [ppT s.1,ppT s.2]
noncomputable def shOf (t:Th):Option Fq:=if shareT t=true then (match t with
 | .tup [.int a,.int b]=>some (a,b)
 | _=>none) else none
theorem sh_yes {t:Th} (h:shareT t=true):∃ p,t=ppT p/\shOf t=some p:=by
 have hp:pairT t=true:=by
  cases e:pairT t with
  | true=>rfl
  | false=>rw[share_not e] at h;cases h
 obtain⟨a,b,rfl⟩:=pair_shape hp
 exact⟨(a,b),rfl,by unfold shOf;rw[if_pos h]⟩
theorem sh_no {t:Th} (h:shareT t=false):shOf t=none:=by unfold shOf;rw[if_neg (by rw[h];exact Bool.false_ne_true)]
noncomputable def st2 (t:Th):Option Sq:=match seqOf t with
 | some [x,y]=>(shOf x).bind λ p=>(shOf y).bind λ q=>some (p,q)
 | _=>none
noncomputable def und2 (p q:Fq):Bool:=decide (p.1*q.2<q.1*p.2)
noncomputable def Sm2 (p:Fq):Prop:=Smk p.1/\Smk p.2
theorem den_pp {H:Hp}{p:Fq}{v:V} (d:Den H (ppT p) v):∃ a,v=.ref a/\H a=some (.tup [.int p.1,.int p.2]):=den_pair d
theorem den_ss {H:Hp}{s:Sq}{v:V} (d:Den H (ssT s) v):∃ c a b,v=.ref c/\H c=some (.tup [.ref a,.ref b])/\H a=some (.tup [.int s.1.1,.int s.1.2])/\H b=some (.tup [.int s.2.1,.int s.2.2]):=by
 obtain⟨c,xs,rfl,h,y,ys,rfl,d1,z,zs,rfl,d2,e⟩:=d
 have e':zs = []:=e
 subst e'
 obtain⟨a,rfl,ha⟩:=den_pp d1
 obtain⟨b,rfl,hb⟩:=den_pp d2
 exact⟨c,a,b,rfl,h,ha,hb⟩
noncomputable def spUndI:Sp:=λ vs H Q _=>∃ (f g:Addr) (p q:Fq),vs = [.ref f,.ref g]/\H f=some (.tup [.int p.1,.int p.2])/\H g=some (.tup [.int q.1,.int q.2])/\Sm2 p/\Sm2 q/\Q (.bl (und2 p q)) H
theorem sc_und:FnScope ["one","other"] ["one","other"] (defScope s_und):=⟨rfl,rfl,rfl,by decide +kernel,rfl,by decide +kernel,by decide +kernel⟩
theorem ok_und {f:Addr}{fd:FuncData} (F:Fun K "under" "under" s_und f fd) (T:Txt mg):FnOk P w K mg base CX0 1 f fd ["one","other"] spUndI:=by
 refine F.ok sc_und (λ vs H Q E h=>?_) (λ cdv A outer s H vs Q E hr h=>?_)
 ·obtain⟨f,g,p,q,rfl,_⟩:=h
  rfl
 obtain⟨f,g,p,q,rfl,h1,h2,t,u,k⟩:=h
 refine⟨_,(pss_one (ps_ret (pe_cmpR op_lt (pe_op op_mulK (pe_ix ix_tup (pv 0) pe_int (λ _ _=>rfl)) (pe_ix ix_tup (pv 1) pe_int (λ _ _=>rfl))) (pe_op op_mulK (pe_ix ix_tup (pv 1) pe_int (λ _ _=>rfl)) (pe_ix ix_tup (pv 0) pe_int (λ _ _=>rfl))) (nomark _)))),?_⟩
 exact⟨_,rfl,f,_,0,_,rfl,rfl,SqT.of h1,at0,_,rfl,g,_,1,_,rfl,rfl,SqT.of h2,at1,_,_,rfl,rfl,⟨t.1,u.2⟩,_,rfl,g,_,0,_,rfl,rfl,SqT.of h2,at0,_,rfl,f,_,1,_,rfl,rfl,SqT.of h1,at1,_,_,rfl,rfl,⟨u.1,t.2⟩,_,_,rfl,rfl,k⟩
noncomputable def spStrX (C:CA):Sp:=λ vs H Q E=>∃ (x:V) (t:Th),vs = [x]/\Den H t x/\(∀ s,st2 t=some s->Sm2 s.1/\Sm2 s.2)/\(∀ s,st2 t=some s->und2 s.2 s.1=false->∀ p H',Same H H'->Den H' (ssT s) (.ref p)->Q (.ref p) H') /\
 ((∀ s,st2 t=some s->und2 s.2 s.1=true)->∀ H',Same H H'->E (.ref C.NoRule) none H')
theorem sc_str:FnScope ["thing","low","high"] ["thing"] (defScope s_str):=⟨rfl,rfl,rfl,by decide +kernel,rfl,by decide +kernel,by decide +kernel⟩
theorem ok_str {C:CA}{f:Addr}{fd:FuncData} (F:Fun K "stretch_of" "stretch_of" s_str f fd) (T:Txt mg) (cf:CF K mg C) {frowof:Addr}{drowof:FuncData} (Growof:FnOk P w K mg base CX0 4 frowof drowof ["thing","count"] spRowT) (browof:Binds K drowof ["thing","count"] []) (krowof:PySem.W.keepIn K (.ref frowof)=true) (mrowof:mg "is_row_of" = some (.ref frowof)) {fshare:Addr}{dshare:FuncData} (Gshare:FnOk P w K mg base CX0 4 fshare dshare ["thing"] spShare) (bshare:Binds K dshare ["thing"] []) (kshare:PySem.W.keepIn K (.ref fshare)=true) (mshare:mg "is_share" = some (.ref fshare)) {fund:Addr}{dund:FuncData} (Gund:FnOk P w K mg base CX0 4 fund dund ["one","other"] spUndI) (bund:Binds K dund ["one","other"] []) (kund:PySem.W.keepIn K (.ref fund)=true) (mund:mg "under" = some (.ref fund)):FnOk P w K mg base (CXX P w) 5 f fd ["thing"] (spStrX C):=by
 refine F.okX sc_str (λ vs H Q E h=>?_) (λ cdv A outer s H vs Q E hr h=>?_)
 ·obtain⟨x,t,rfl,_⟩:=h
  rfl
 obtain⟨x,t,rfl,d,hsm,q1,q2⟩:=h
 refine⟨_,(pss_cons (ps_if (pt_not (pt_val (pe_call Growof hr rfl mrowof krowof browof .nil pass0 (pa_cons (pv 0) (pa_cons pe_int pa_nil))))) (pss_one (ps_raise reachOf rfl cf.xNoRule rfl (pa_cons pe_str pa_nil))) pss_nil)
  (pss_cons (ps_set (i:=1) sc_str.nd rfl (Or.inl rfl) (pe_ix ix_seq (pv 0) pe_int (λ _ _=>rfl)))
  (pss_cons (ps_set (i:=2) sc_str.nd rfl (Or.inl rfl) (pe_ix ix_seq (pv 0) pe_int (λ _ _=>rfl)))
  (pss_cons (ps_if (PW.pt (pw_or (pt_not (pt_val (pe_call Gshare hr rfl mshare kshare bshare .nil pass0 (pa_cons (pv 1) pa_nil)))) (pw_or1 (pt_not (pt_val (pe_call Gshare hr rfl mshare kshare bshare .nil pass0 (pa_cons (pv 2) pa_nil))))))) (pss_one (ps_raise reachOf rfl cf.xNoRule rfl (pa_cons pe_str pa_nil))) pss_nil)
  (pss_cons (ps_if (pt_val (pe_call Gund hr rfl mund kund bund .nil pass0 (pa_cons (pv 2) (pa_cons (pv 1) pa_nil)))) (pss_one (ps_raise reachOf rfl cf.xNoRule rfl (pa_cons pe_str pa_nil))) pss_nil)
  (pss_one (ps_ret (pe_tup (pa_cons (pv 1) (pa_cons (pv 2) pa_nil)))))))))),?_⟩
 have one:1<=sizeLine:=by decide
 refine⟨_,rfl,x,2,t,rfl,d,λ H1 s1=>⟨_,rfl,?_⟩⟩
 cases hr2:rowB t 2 with
 | false =>
  refine iteT ⟨one,q2 (λ s hs=>?_) _ s1⟩
  exfalso
  unfold st2 at hs
  unfold rowB at hr2
  split at hs
  ·rename_i e
   rw[e] at hr2
   exact absurd hr2 (by simp)
  ·cases hs
 | true =>
  obtain⟨t0,t1,e2⟩:=row_two hr2
  obtain⟨a,xs,rfl,sq,dd⟩:=seq_den e2 d
  obtain⟨y,ys,rfl,d0,z,zs,rfl,d1,e5⟩:=dd
  have e5':zs = []:=e5
  subst e5'
  refine iteF ?_
  have sq1:=sq.keep s1
  have es:st2 t=(shOf t0).bind λ p=>(shOf t1).bind λ q=>some (p,q):=by unfold st2;rw[e2]
  refine⟨_,rfl,sq1.ix at0 ?_⟩
  refine⟨_,rfl,sq1.ix at1 ?_⟩
  refine⟨_,rfl,y,t0,rfl,d0.keep s1,_,rfl,?_⟩
  cases h0:shareT t0 with
  | false =>
   refine iteT (iteT ⟨one,q2 (λ s hs=>?_) _ s1⟩)
   rw[es,sh_no h0] at hs
   cases hs
  | true =>
   refine iteF ⟨_,rfl,z,t1,rfl,d1.keep s1,_,rfl,?_⟩
   cases h1:shareT t1 with
   | false =>
    refine iteT ⟨one,q2 (λ s hs=>?_) _ s1⟩
    obtain⟨p,_,ep⟩:=sh_yes h0
    rw[es,ep,sh_no h1] at hs
    cases hs
   | true =>
    refine iteF ?_
    obtain⟨p,rfl,ep⟩:=sh_yes h0
    obtain⟨q,rfl,eq⟩:=sh_yes h1
    have e3:st2 t=some (p,q):=by rw[es,ep,eq];rfl
    obtain⟨m1,m2⟩:=hsm _ e3
    obtain⟨b,rfl,hb⟩:=den_pp (d0.keep s1)
    obtain⟨c,rfl,hc⟩:=den_pp (d1.keep s1)
    refine⟨_,rfl,_,rfl,c,b,q,p,rfl,hc,hb,m2,m1,_,rfl,?_⟩
    cases hu:und2 q p with
    | true=>exact iteT ⟨one,q2 (λ s hs=>by rw[e3] at hs;cases hs;exact hu) _ s1⟩
    | false =>
     refine iteF ⟨_,rfl,_,rfl,(by show 2<=sizeLine;decide),λ m hm=>?_⟩
     have s2:=same_new hm (.tup [V.ref b,V.ref c])
     exact q1 (p,q) e3 hu m _ (s1.trans s2) (den2 upd_same (den_p (s2 _ _ hb)) (den_p (s2 _ _ hc)))
noncomputable def RisU (ps:List Sq):Prop:=∀ i p q,ps[i]? = some p->ps[i+1]? = some q->und2 q.1 p.1=false/\und2 q.2 p.2=false
structure GoodU (A S:Th) (n:Int) (ps:List Sq):Prop where
 a:A=.int n
 seq:∃ ts,seqOf S=some ts/\ts.map st2=ps.map some
 n1:1<=n
 n12:n<=12
 len:(ps.length:Int)=n+1
 inn:∀ p∈ps,und2 p.2 p.1=false
 ris:RisU ps
noncomputable def ruT (n:Int) (ps:List Sq):Th:=.tup [.int n,.tup (ps.map ssT)]
theorem dens_snoc {H:Hp}:∀ {ts:List Th}{xs:List V}{t:Th}{v:V},Dens H ts xs->Den H t v->Dens H (ts++[t]) (xs++[v])
 | [],xs,t,v,h,d=>by
  rw[show xs = [] from h]
  exact⟨v,[],rfl,d,rfl⟩
 | u::us,xs,t,v,⟨y,ys,e,d1,d2⟩,d=>by
  rw[e]
  exact⟨y,ys++[v],rfl,d1,dens_snoc d2 d⟩
theorem map_snoc {ts:List Th}{ps:List Sq}{i:Nat}{t:Th}{a:Sq} (h:(ts.take i).map st2=ps.map some) (e:ts[i]? = some t) (ha:st2 t=some a):(ts.take (i+1)).map st2=(ps++[a]).map some:=by
 rw[List.take_add_one,e,List.map_append,List.map_append,h]
 show _++[st2 t]=_
 rw[ha]
 rfl
theorem map_at {ts:List Th}{ps:List Sq} (h:ts.map st2=ps.map some) {i:Nat}{t:Th} (e:ts[i]? = some t):∃ p,ps[i]? = some p/\st2 t=some p:=by
 have h1:(ts.map st2)[i]? = some (st2 t):=by rw[List.getElem?_map,e];rfl
 rw[h,List.getElem?_map] at h1
 cases q:ps[i]? with
 | none=>rw[q] at h1;cases h1
 | some p=>rw[q] at h1;exact⟨p,rfl,(Option.some.inj h1).symm⟩
theorem some_inj:∀ {ps qs:List Sq},ps.map some=qs.map some->ps=qs
 | [],[],_=>rfl
 | [],_::_,h=>by cases h
 | _::_,[],h=>by cases h
 | p::ps,q::qs,h=>by
  rw[List.map_cons,List.map_cons] at h
  injection h with h1 h2
  injection h1 with h1
  rw[h1,some_inj h2]
theorem dens_write {H:Hp}{l:Addr}{zs ws:List V} (hl:H l=some (.lst zs)):∀ {ts:List Th}{xs:List V},(∀ t∈ts,∃ p,t=ssT p)->Dens H ts xs->Dens (upd H l (.lst ws)) ts xs
 | [],_,_,h=>h
 | t::ts,xs,ht,⟨y,ys,e,d1,d2⟩=>by
  obtain⟨p,rfl⟩:=ht t (by simp)
  obtain⟨c,a,b,rfl,hc,ha,hb⟩:=den_ss d1
  have k:∀ {x o},H x=some (.tup o)->upd H l (.lst ws) x=some (.tup o):=λ h=>by rw[upd_ne (ne_of h hl (by intro z;cases z))];exact h
  exact⟨.ref c,ys,e,den2 (k hc) (den_p (k ha)) (den_p (k hb)),dens_write hl (λ t' h'=>ht t' (by simp [h'])) d2⟩
noncomputable def spRuX (C:CA):Sp:=λ vs H Q E=>∃ (x z:V) (A S:Th),vs = [x,z]/\Den H A x/\Den H S z/\(∀ ts,seqOf S=some ts->∀ t∈ts,∀ s,st2 t=some s->Sm2 s.1/\Sm2 s.2)/\(∀ n ps,GoodU A S n ps->∀ p H',Same H H'->Den H' (ruT n ps) (.ref p)->Q (.ref p) H') /\
 ((∀ n ps,¬ GoodU A S n ps)->∀ H',Same H H'->E (.ref C.NoRule) none H')
theorem sc_ruleof:FnScope ["n","stretches","kept","ahead","behind"] ["n","stretches"] (defScope s_ruleof):=⟨rfl,rfl,rfl,by decide +kernel,rfl,by decide +kernel,by decide +kernel⟩
theorem ok_ruleof {C:CA}{f:Addr}{fd:FuncData} (F:Fun K "rule_of" "rule_of" s_ruleof f fd) (T:Txt mg) (cf:CF K mg C) {fwhole:Addr}{dwhole:FuncData} (Gwhole:FnOk P w K mg base CX0 5 fwhole dwhole ["thing"] spWhole) (bwhole:Binds K dwhole ["thing"] []) (kwhole:PySem.W.keepIn K (.ref fwhole)=true) (mwhole:mg "is_whole" = some (.ref fwhole)) {frowof:Addr}{drowof:FuncData} (Growof:FnOk P w K mg base CX0 5 frowof drowof ["thing","count"] spRowT) (browof:Binds K drowof ["thing","count"] []) (krowof:PySem.W.keepIn K (.ref frowof)=true) (mrowof:mg "is_row_of" = some (.ref frowof)) {fstr:Addr}{dstr:FuncData} (Gstr:FnOk P w K mg base (CXX P w) 5 fstr dstr ["thing"] (spStrX C)) (bstr:Binds K dstr ["thing"] []) (kstr:PySem.W.keepIn K (.ref fstr)=true) (mstr:mg "stretch_of" = some (.ref fstr)) {fund:Addr}{dund:FuncData} (Gund:FnOk P w K mg base CX0 5 fund dund ["one","other"] spUndI) (bund:Binds K dund ["one","other"] []) (kund:PySem.W.keepIn K (.ref fund)=true) (mund:mg "under" = some (.ref fund)):FnOk P w K mg base (CXX P w) 6 f fd ["n","stretches"] (spRuX C):=by
 refine F.okX sc_ruleof (λ vs H Q E h=>?_) (λ cdv A outer s H vs Q E hr h=>?_)
 ·obtain⟨x,z,A',S',rfl,_⟩:=h
  rfl
 obtain⟨x,z,A',S',rfl,dA,dS,hsm,q1,q2⟩:=h
 refine⟨_,(pss_cons (ps_if (PW.pt (pw_or (pt_not (pt_val (pe_call Gwhole hr rfl mwhole kwhole bwhole .nil pass0 (pa_cons (pv 0) pa_nil)))) (pw_or (pt_cmpR op_lt (pv 0) pe_int (nomark _)) (pw_or1 (pt_cmpR op_gt (pv 0) pe_int (nomark _)))))) (pss_one (ps_raise reachOf rfl cf.xNoRule rfl (pa_cons pe_str pa_nil))) pss_nil)
  (pss_cons (ps_if (pt_not (pt_val (pe_call Growof hr rfl mrowof krowof browof .nil pass0 (pa_cons (pv 1) (pa_cons (pe_op op_add (pv 0) pe_int) pa_nil))))) (pss_one (ps_raise reachOf rfl cf.xNoRule rfl (pa_cons pe_str pa_nil))) pss_nil)
  (pss_cons (ps_set (i:=2) sc_ruleof.nd rfl (Or.inl rfl) (pe_callTy call_tuple_of rfl T.tuple boot_tuple (pa_cons (pe_compX (xs:=["stretch"]) (ts:=[]) dxOf (λ _ _ h=>h) rfl ⟨rfl,sub0,rfl,rfl,rfl,by decide +kernel,rfl,rfl⟩ (pi_seq (pv 1)) (λ C s3 H3 fp=>(pg_name (i:=0) (show (["stretch"]:List Str).Nodup by decide +kernel) rfl (Or.inl rfl) (Or.inr rfl))) (λ C s3 H3 fp=>pif_nil) (λ C s3 H3 fp xe hx=>(pe_call Gstr hr rfl mstr kstr bstr .nil hx (pa_cons (pv 0) pa_nil)))) pa_nil)))
  (pss_cons (ps_for PassesOwn.leaving rfl (pi_zipT rfl T.zip (pa_cons (pv 2) (pa_cons (pe_slice sl_tup (pv 2) (po_some pe_int) po_none) pa_nil))) (pg_tup rfl (pgs_cons (pg_name (i:=3) sc_ruleof.nd rfl (Or.inl rfl)) (pgs_cons (pg_name (i:=4) sc_ruleof.nd rfl (Or.inl rfl)) pgs_nil))) (pss_one (ps_if (PW.pt (pw_or (pt_val (pe_call Gund hr rfl mund kund bund .nil pass0 (pa_cons (pe_ix ix_tup (pv 4) pe_int (λ _ _=>rfl)) (pa_cons (pe_ix ix_tup (pv 3) pe_int (λ _ _=>rfl)) pa_nil)))) (pw_or1 (pt_val (pe_call Gund hr rfl mund kund bund .nil pass0 (pa_cons (pe_ix ix_tup (pv 4) pe_int (λ _ _=>rfl)) (pa_cons (pe_ix ix_tup (pv 3) pe_int (λ _ _=>rfl)) pa_nil))))))) (pss_one (ps_raise reachOf rfl cf.xNoRule rfl (pa_cons pe_str pa_nil))) pss_nil)))
  (pss_one (ps_ret (pe_tup (pa_cons (pv 0) (pa_cons (pv 2) pa_nil))))))))),?_⟩
 have one:1<=sizeLine:=by decide
 refine⟨_,rfl,x,A',rfl,dA,_,rfl,?_⟩
 cases hA:isW A' with
 | false=>exact iteT (iteT ⟨one,q2 (λ n ps g=>by rw[g.a] at hA;cases hA) _ (Same.refl H)⟩)
 | true =>
 obtain⟨n,rfl⟩:=isW_shape hA
 cases (show x=V.int n from dA)
 have gn:∀ {n' ps},GoodU (.int n) S' n' ps->n'=n:=λ g=>by
  have e:=g.a
  cases e
  rfl
 refine iteF ⟨_,rfl,_,_,rfl,rfl,_,rfl,?_⟩
 refine ite2 (λ c=>iteT ⟨one,q2 (λ n' ps g=>?_) _ (Same.refl H)⟩) (λ c1=>?_)
 ·cases gn g
  have:=of_decide_eq_true c
  have:=g.n1
  omega
 refine⟨_,rfl,_,_,rfl,rfl,_,rfl,?_⟩
 refine ite2 (λ c=>⟨one,q2 (λ n' ps g=>?_) _ (Same.refl H)⟩) (λ c2=>?_)
 ·cases gn g
  have:=of_decide_eq_true c
  have:=g.n12
  omega
 have k1:¬ n<1:=ofD c1
 have k2:¬ (12:Int)<n:=ofD c2
 refine⟨_,rfl,_,rfl,_,_,rfl,rfl,z,n+1,S',rfl,dS,λ H1 s1=>⟨_,rfl,?_⟩⟩
 cases hR:rowB S' (n+1) with
 | false =>
  refine iteT ⟨one,q2 (λ n' ps g=>?_) _ s1⟩
  cases gn g
  obtain⟨ts,e1,e2⟩:=g.seq
  have l1:ts.length=ps.length:=by simpa using congrArg List.length e2
  have l2:=g.len
  unfold rowB at hR
  rw[e1] at hR
  exact absurd hR (by simp;omega)
 | true =>
 refine iteF ?_
 obtain⟨ts,es,lt⟩:=row_seq hR
 have hsm:=hsm ts es
 obtain⟨a,xs,rfl,sq,dd⟩:=seq_den es dS
 have lx:=dd.len
 have sq1:=sq.keep s1
 have dd1:=dd.keep s1
 refine⟨_,rfl,a,xs,rfl,?_⟩
 refine seq_comp sq1 (Nat.le_of_lt (lt40 (by omega))) (λ D i ws H2=>∃ ps:List Sq,(ts.take i).map st2=ps.map some/\(∀ p∈ps,und2 p.2 p.1=false)/\Dens H2 (ps.map ssT) ws) (λ D hD=>⟨[],rfl,(λ p hp=>absurd hp (by simp)),rfl⟩) ?_ ?_
 ·rintro D i v ws H2 k hD hv sm e hl ⟨ps,m1,m2,m3⟩ hk
  have hi:=(List.getElem?_eq_some_iff.mp hv).1
  have et:=List.getElem?_eq_getElem (show i<ts.length by omega)
  obtain⟨v',f1,f2⟩:=(dd1.keep sm).get et
  rw[hv] at f1
  cases f1
  refine⟨_,rfl,v,_,rfl,f2,hsm _ (List.getElem_mem _),λ b hb hin p H3 s3 hp=>hk _ _ s3 ⟨ps++[b],map_snoc m1 et hb,λ p' hp'=>?_,?_⟩,λ hbad H3 s3=>q2 (λ n' ps' g=>?_) _ ((s1.trans sm).trans s3)⟩
  ·rcases List.mem_append.mp hp' with y | y
   ·exact m2 p' y
   ·rw[List.mem_singleton.mp y];exact hin
  ·rw[List.map_append]
   exact dens_write (s3 _ _ e) (λ p' hp'=>by
    rcases List.mem_append.mp hp' with y | y
    ·obtain⟨q,_,rfl⟩:=List.mem_map.mp y;exact⟨q,rfl⟩
    ·exact⟨b,List.mem_singleton.mp y⟩) (dens_snoc (m3.keep s3) hp)
  ·obtain⟨ts',e1,e2⟩:=g.seq
   rw[es] at e1
   cases e1
   obtain⟨p,y1,y2⟩:=map_at e2 et
   have:=hbad p y2
   rw[g.inn p (List.mem_of_getElem? y1)] at this
   cases this
 rintro D ws H2 hD s2 hD2 hlw ⟨ps,m1,m2,m3⟩
 rw[List.take_of_length_le (by omega)] at m1
 have lp:ts.length=ps.length:=by simpa using congrArg List.length m1
 have psm:∀ p∈ps,Sm2 p.1/\Sm2 p.2:=λ p hp=>by
  obtain⟨i,hi⟩:=List.mem_iff_getElem?.mp hp
  have hi':=(List.getElem?_eq_some_iff.mp hi).1
  have et:=List.getElem?_eq_getElem (show i<ts.length by omega)
  obtain⟨p',y1,y2⟩:=map_at m1 et
  rw[hi] at y1
  cases y1
  exact hsm _ (List.getElem_mem _) p y2
 refine⟨D,ws,rfl,.inl ⟨SqL.of hD2,λ t ht=>?_⟩⟩
 have s3:=same_new ht (.tup ws)
 have r3:=m3.keep s3
 have t3:(upd H2 t (.tup ws)) t=some (.tup ws):=upd_same
 have s13:=(s1.trans s2).trans s3
 generalize hH3:upd H2 t (.tup ws)=H3 at *
 have hcut:¬ (HT.sIx ws.length 0 (some 1)=0/\HT.sIx ws.length ws.length none=ws.length):=by
  rw[show (1:Int)=((1:Nat):Int) from rfl,HT.sIx_nat]
  omega
 refine⟨_,rfl,_,rfl,_,rfl,t,ws,rfl,SqT.of t3,hcut,λ m hm=>?_⟩
 rw[cut_tail (by omega)]
 have s4:=same_new hm (.tup (ws.drop 1))
 refine⟨t,m,rfl,⟨_,SqT.of (s4 _ _ t3)⟩,⟨_,SqT.of upd_same⟩,?_⟩
 have m4:(upd H3 m (.tup (ws.drop 1))) m=some (.tup (ws.drop 1)):=upd_same
 have r4:=r3.keep s4
 have t4:=s4 _ _ t3
 generalize hH4:upd H3 m (.tup (ws.drop 1))=H4 at *
 have pin:∀ {n' ps'},GoodU (.int n) S' n' ps'->ps'=ps:=λ g=>by
  obtain⟨ts',e1,e2⟩:=g.seq
  rw[es] at e1
  cases e1
  exact some_inj (e2.symm.trans m1)
 refine for_zipT (n:=ws.length-1) (xs:=ws) (ys:=ws.drop 1) (λ i σ H'=>Same H4 H'/\(∀ j,j<i->∀ p q,ps[j]? = some p->ps[j+1]? = some q->und2 q.1 p.1=false/\und2 q.2 p.2=false)/\∃ v1 v2,σ = [some (.int n),some (.ref a),some (.ref t),v1,v2]) ⟨Same.refl H4,λ j hj=>absurd hj (by omega),none,none,rfl⟩ (by omega) (by simp) (.inr (by simp)) ?_ ?_ ?_
 ·rintro i σ H' hi ⟨sm,_⟩
  exact⟨SqT.of (sm _ _ t4),SqT.of (sm _ _ m4)⟩
 ·rintro i u v U σ H' hi hu hv hU ⟨sm,hj,v1,v2,rfl⟩
  have ep:=List.getElem?_eq_getElem (show i<ps.length by omega)
  have ep2:=List.getElem?_eq_getElem (show i+1<ps.length by omega)
  obtain⟨w1,f1,g1⟩:=(r4.keep sm).get (i:=i) (t:=ssT ps[i]) (by rw[List.getElem?_map,ep];rfl)
  obtain⟨w2,f2,g2⟩:=(r4.keep sm).get (i:=i+1) (t:=ssT ps[i+1]) (by rw[List.getElem?_map,ep2];rfl)
  rw[hu] at f1
  cases f1
  rw[List.getElem?_drop,Nat.add_comm,f2] at hv
  cases hv
  obtain⟨b,bl,bh,rfl,b2,b3,b4⟩:=den_ss g1
  obtain⟨c,cl,ch,rfl,c2',c3,c4⟩:=den_ss g2
  have sU:=same_new hU (.tup [.ref b,.ref c])
  have z1:=psm _ (List.mem_of_getElem? ep)
  have z2:=psm _ (List.mem_of_getElem? ep2)
  refine⟨U,_,rfl,SqT.of upd_same,rfl,.ref b,[.ref c],rfl,.ref c,[],rfl,rfl,?_⟩
  have b2:=sU _ _ b2
  have b3:=sU _ _ b3
  have b4:=sU _ _ b4
  have c2':=sU _ _ c2'
  have c3:=sU _ _ c3
  have c4:=sU _ _ c4
  refine⟨_,rfl,c,_,0,_,rfl,rfl,SqT.of c2',at0,_,rfl,b,_,0,_,rfl,rfl,SqT.of b2,at0,cl,bl,_,_,rfl,c3,b3,z2.1,z1.1,_,rfl,?_⟩
  cases u1:und2 ps[i+1].1 ps[i].1 with
  | true =>
   refine iteT (iteT ⟨one,q2 (λ n' ps' g=>?_) _ ((((s13.trans s4).trans sm)).trans sU)⟩)
   have y:=g.ris
   rw[pin g] at y
   have y':=(y i _ _ ep ep2).1
   rw[u1] at y'
   cases y'
  | false =>
  refine iteF ⟨_,rfl,c,_,1,_,rfl,rfl,SqT.of c2',at1,_,rfl,b,_,1,_,rfl,rfl,SqT.of b2,at1,ch,bh,_,_,rfl,c4,b4,z2.2,z1.2,_,rfl,?_⟩
  cases u2:und2 ps[i+1].2 ps[i].2 with
  | true =>
   refine iteT ⟨one,q2 (λ n' ps' g=>?_) _ ((((s13.trans s4).trans sm)).trans sU)⟩
   have y:=g.ris
   rw[pin g] at y
   have y':=(y i _ _ ep ep2).2
   rw[u2] at y'
   cases y'
  | false =>
  refine iteF ⟨sm.trans sU,λ j hj' p q hp hq=>?_,_,_,rfl⟩
  by_cases ej:j<i
  ·exact hj j ej p q hp hq
  ·have:j=i:=by omega
   subst this
   rw[ep] at hp
   rw[ep2] at hq
   cases hp
   cases hq
   exact⟨u1,u2⟩
 ·rintro σ H' ⟨sm,hj,v1,v2,rfl⟩
  refine⟨_,rfl,_,rfl,(by show 2<=sizeLine;decide),λ x hx=>?_⟩
  have s5:=same_new hx (.tup [V.int n,V.ref t])
  have gd:GoodU (.int n) S' n ps:=⟨rfl,⟨ts,es,m1⟩,by omega,by omega,by omega,m2,λ i p q hp hq=>hj i (by have:=(List.getElem?_eq_some_iff.mp hq).1;omega) p q hp hq⟩
  exact q1 n ps gd x _ (((s13.trans s4).trans sm).trans s5) ⟨x,_,rfl,upd_same,_,_,rfl,rfl,_,_,rfl,⟨t,ws,rfl,s5 _ _ (sm _ _ t4),(r4.keep sm).keep s5⟩,rfl⟩
theorem sc_dv:FnScope ["_law_one","_law_other","_law_rest"] ["_law_one","_law_other"] (defScope s_dv):=⟨rfl,rfl,rfl,by decide +kernel,rfl,by decide +kernel,by decide +kernel⟩
theorem ok_dv {f:Addr}{fd:FuncData} (F:Fun K "_law_divisor" "_law_divisor" s_dv f fd) (T:Txt mg):FnOk P w K mg base CX0 1 f fd ["_law_one","_law_other"] spCd:=by
 refine F.ok sc_dv (λ vs H Q E h=>?_) (λ cdv A outer s H vs Q E hr h=>?_)
 ·obtain⟨a,b,rfl,_⟩:=h
  rfl
 obtain⟨a,b,rfl,ha,hb,q⟩:=h
 refine⟨_,(pss_cons (ps_while PassesOwn.never (pt_cmpR op_ne (pv 1) pe_int (nomark _)) (pss_cons (ps_set (i:=2) sc_dv.nd rfl (Or.inl rfl) (pe_op op_mod (pv 0) (pv 1)))
   (pss_cons (ps_set (i:=0) sc_dv.nd rfl (Or.inl rfl) (pv 1))
   (pss_one (ps_set (i:=1) sc_dv.nd rfl (Or.inl rfl) (pv 2))))))
  (pss_one (ps_ret (pv 0)))),?_⟩
 refine while_by (λ σ H'=>H'=H/\∃ x y v,σ = [some (.int x),some (.int y),v]/\0<=x/\0<=y/\Int.gcd x y=Int.gcd a b) (λ σ _=>mu2 σ) ⟨rfl,a,b,none,rfl,ha,hb,rfl⟩ ?_ ?_
 ·rintro σ H' ⟨rfl,x,y,v,rfl,hx,hy,g⟩
  refine⟨_,rfl,rfl,_,rfl,?_⟩
  refine ite2 (λ c=>?_) (λ c=>?_)
  ·have c':y≠0:=by rintro rfl;exact absurd c (by decide)
   have hm:=Int.emod_nonneg x c'
   have hl:=Int.emod_lt_of_pos x (show 0<y by omega)
   refine⟨_,rfl,_,rfl,_,_,rfl,rfl,(by show 0<y;omega),_,rfl,_,rfl,?_⟩
   refine⟨⟨rfl,y,x%y,some (.int (x%y)),rfl,hy,hm,by rw[gstep hx hy c'];exact g⟩,?_⟩
   show (x%y).toNat<y.toNat
   omega
  ·have c':y=0:=by
    by_cases z:y=0
    ·exact z
    ·exact absurd (show (!decide (V.int y=V.int 0))=true by rw[decide_eq_false (λ w=>z (by injection w))];rfl) c
   subst c'
   refine⟨_,rfl,?_⟩
   rw[<-g,gend hx] at q
   exact q
 ·intro σ H Q Q' hq h
  obtain⟨v,e,h1,k,e2,h2⟩:=h
  exact⟨v,e,h1,k,e2,hq _ _ h2⟩
noncomputable def spCell (K:PySem.W.Frag):Sp:=λ vs H Q _=>∃ (a:Addr) (ns:List Int) (k:Int),vs = [.ref a,.int k]/\SqL K H a (ns.map V.int)/\0<=k/\Q (.int (ns.getD k.toNat 0)) H
theorem sc_cell:FnScope ["_law_script","_law_k"] ["_law_script","_law_k"] (defScope s_cell):=⟨rfl,rfl,rfl,by decide +kernel,rfl,by decide +kernel,by decide +kernel⟩
theorem ok_cell {f:Addr}{fd:FuncData} (F:Fun K "_law_cell_at" "_law_cell_at" s_cell f fd) (T:Txt mg):FnOk P w K mg base CX0 1 f fd ["_law_script","_law_k"] (spCell K):=by
 refine F.ok sc_cell (λ vs H Q E h=>?_) (λ cdv A outer s H vs Q E hr h=>?_)
 ·obtain⟨a,ns,k,rfl,_⟩:=h
  rfl
 obtain⟨a,ns,k,rfl,hS,h0,q⟩:=h
 refine⟨_,(pss_cons (ps_if (pt_cmpR op_lt (pv 1) (pe_callB call_len_seq rfl T.len boot_len (pa_cons (pv 0) pa_nil)) (nomark _)) (pss_one (ps_ret (pe_ix ix_list (pv 0) (pv 1) (λ _ _=>rfl)))) pss_nil)
  (pss_one (ps_ret pe_int))),?_⟩
 have hl:(ns.map V.int).length=ns.length:=List.length_map _
 refine⟨_,rfl,_,rfl,a,_,rfl,.inl hS,_,_,rfl,rfl,_,rfl,?_⟩
 refine ite2 (λ c=>?_) (λ c=>?_)
 ·have c':k<(((ns.map V.int).length:Nat):Int):=of_decide_eq_true c
  rw[hl] at c'
  exact⟨_,rfl,_,rfl,a,_,k,_,rfl,rfl,hS,at_getD h0 c',q⟩
 ·have c':=ofD c
  rw[hl] at c'
  rw[getD_out (by omega)] at q
  exact q
noncomputable def frOk:Th->Th->Option (Int×Int)
 | .int a,.int b=>if b=0 then none else some (a,b)
 | _,_=>none
theorem frOk_shape {tx ty:Th}{a b:Int} (h:frOk tx ty=some (a,b)):tx=.int a/\ty=.int b/\b≠0:=by
 unfold frOk at h
 split at h
 ·split at h
  ·cases h
  ·rename_i hz;cases h;exact⟨rfl,rfl,hz⟩
 ·cases h
theorem frOk_no1 {tx ty:Th} (h:isW tx=false):frOk tx ty=none:=by
 cases tx<;>first | rfl | cases h
theorem frOk_no2 {tx ty:Th} (h:isW ty=false):frOk tx ty=none:=by
 cases tx<;>cases ty<;>first | rfl | cases h
theorem frOk_yes {a b:Int} (h:b≠0):frOk (.int a) (.int b)=some (a,b):=if_neg h
noncomputable def spFrac (C:CA):Sp:=λ vs H Q E=>∃ x y tx ty,vs = [x,y]/\Den H tx x/\Den H ty y /\
 (∀ a b,frOk tx ty=some (a,b)->Smk b/\∀ p,H p=none->Q (.ref p) (upd H p (.tup [.int (frT a b),.int (frB a b)])))/\(frOk tx ty=none->E (.ref C.NoNumber) none H)
theorem smk_frD {a b:Int} (h:b≠0) (sb:Smk b):Smk (frD a b):=by
 have h1:(frD a b).natAbs=Int.gcd a b:=by unfold frD;split<;>omega
 have h2:Int.gcd a b<=b.natAbs:=Nat.le_of_dvd (by omega) (Nat.gcd_dvd_right ..)
 exact Nat.lt_of_le_of_lt (by rw[h1];exact h2) sb
theorem gcd_abs (a b:Int):(Int.gcd (if a<0 then -a else a) (if b<0 then -b else b):Int)=Int.gcd a b:=by rw[gabs]
theorem sc_frac:FnScope ["top","bottom","divisor"] ["top","bottom"] (defScope s_frac):=⟨rfl,rfl,rfl,by decide +kernel,rfl,by decide +kernel,by decide +kernel⟩
theorem ok_frac {C:CA}{f:Addr}{fd:FuncData} (F:Fun K "fraction" "fraction" s_frac f fd) (T:Txt mg) (cf:CF K mg C) {fwhole:Addr}{dwhole:FuncData} (Gwhole:FnOk P w K mg base CX0 2 fwhole dwhole ["thing"] spWhole) (bwhole:Binds K dwhole ["thing"] []) (kwhole:PySem.W.keepIn K (.ref fwhole)=true) (mwhole:mg "is_whole" = some (.ref fwhole)) {fcd:Addr}{dcd:FuncData} (Gcd:FnOk P w K mg base CX0 2 fcd dcd ["one","other"] spCd) (bcd:Binds K dcd ["one","other"] []) (kcd:PySem.W.keepIn K (.ref fcd)=true) (mcd:mg "common_divisor" = some (.ref fcd)):FnOk P w K mg base (CXX P w) 3 f fd ["top","bottom"] (spFrac C):=by
 refine F.okX sc_frac (λ vs H Q E h=>?_) (λ cdv A outer s H vs Q E hr h=>?_)
 ·obtain⟨x,y,tx,ty,rfl,_⟩:=h
  rfl
 obtain⟨x,y,tx,ty,rfl,d1,d2,q1,q2⟩:=h
 refine⟨_,(pss_cons (ps_if (PW.pt (pw_or (pt_not (pt_val (pe_call Gwhole hr rfl mwhole kwhole bwhole .nil pass0 (pa_cons (pv 0) pa_nil)))) (pw_or1 (pt_not (pt_val (pe_call Gwhole hr rfl mwhole kwhole bwhole .nil pass0 (pa_cons (pv 1) pa_nil))))))) (pss_one (ps_raise reachOf rfl cf.xNoNumber rfl (pa_cons pe_str pa_nil))) pss_nil)
  (pss_cons (ps_if (pt_cmpR op_eq (pv 1) pe_int (nomark _)) (pss_one (ps_raise reachOf rfl cf.xNoNumber rfl (pa_cons pe_str pa_nil))) pss_nil)
  (pss_cons (ps_set (i:=2) sc_frac.nd rfl (Or.inl rfl) (pe_call Gcd hr rfl mcd kcd bcd .nil pass0 (pa_cons (pe_callB call_abs rfl T.abs boot_abs (pa_cons (pv 0) pa_nil)) (pa_cons (pe_callB call_abs rfl T.abs boot_abs (pa_cons (pv 1) pa_nil)) pa_nil))))
  (pss_cons (ps_if (pt_cmpR op_lt (pv 1) pe_int (nomark _)) (pss_one (ps_set (i:=2) sc_frac.nd rfl (Or.inl rfl) (pe_un un_neg (pv 2)))) pss_nil)
  (pss_one (ps_ret (pe_tup (pa_cons (pe_op op_fdivK (pv 0) (pv 2)) (pa_cons (pe_op op_fdivK (pv 1) (pv 2)) pa_nil))))))))),?_⟩
 refine⟨_,rfl,x,tx,rfl,d1,_,rfl,?_⟩
 cases hx:isW tx with
 | false=>exact iteT (iteT ⟨(by show 1<=sizeLine;decide),q2 (frOk_no1 hx)⟩)
 | true =>
  refine iteF ?_
  refine⟨_,rfl,y,ty,rfl,d2,_,rfl,?_⟩
  cases hy:isW ty with
  | false=>exact iteT ⟨(by show 1<=sizeLine;decide),q2 (frOk_no2 hy)⟩
  | true =>
   refine iteF ?_
   obtain⟨a,rfl⟩:=isW_shape hx
   obtain⟨b,rfl⟩:=isW_shape hy
   have d1':x=V.int a:=d1
   have d2':y=V.int b:=d2
   subst d1' d2'
   refine⟨_,rfl,rfl,_,rfl,?_⟩
   by_cases hb:b=0
   ·subst hb
    exact iteT ⟨(by show 1<=sizeLine;decide),q2 rfl⟩
   refine ite2 (λ c=>absurd (by have:=of_decide_eq_true c;injection this) hb) (λ _=>?_)
   obtain⟨sb,q⟩:=q1 a b (frOk_yes hb)
   have sd:=smk_frD (a:=a) hb sb
   have nd:=frD_ne (t:=a) hb
   have ha:0<=(if a<0 then -a else a):=by split<;>omega
   have hb':0<=(if b<0 then -b else b):=by split<;>omega
   refine⟨_,rfl,_,rfl,_,rfl,_,rfl,_,_,rfl,ha,hb',?_⟩
   rw[gcd_abs]
   refine⟨_,rfl,_,_,rfl,rfl,_,rfl,?_⟩
   refine ite2 (λ c=>?_) (λ c=>?_)
   ·have c':b<0:=of_decide_eq_true c
    have e:frD a b = -(Int.gcd a b:Int):=if_pos c'
    rw[e] at sd nd
    refine⟨_,rfl,_,rfl,?_⟩
    refine⟨_,rfl,_,rfl,_,_,rfl,rfl,⟨nd,sd⟩,_,rfl,_,rfl,_,_,rfl,rfl,⟨nd,sd⟩,(by show 2<=sizeLine;decide),λ p hp=>?_⟩
    have z:=q p hp
    unfold frT frB at z
    rw[e] at z
    exact z
   ·have c':¬ b<0:=ofD c
    have e:frD a b=(Int.gcd a b:Int):=if_neg c'
    rw[e] at sd nd
    refine⟨_,rfl,_,rfl,_,_,rfl,rfl,⟨nd,sd⟩,_,rfl,_,rfl,_,_,rfl,rfl,⟨nd,sd⟩,(by show 2<=sizeLine;decide),λ p hp=>?_⟩
    have z:=q p hp
    unfold frT frB at z
    rw[e] at z
    exact z
noncomputable def NewFr (H:Hp) (r:Rat) (Q:VK):Prop:=∀ a H',Same H H'->H' a=some (.tup [.int r.num,.int (r.den:Int)])->Q (.ref a) H'
noncomputable def Told (H:Hp) (t b:Int) (Q:VK):Prop:=∀ p,H p=none->Q (.ref p) (upd H p (.tup [.int (frT t b),.int (frB t b)]))
theorem frac_ready {C:CA}{H:Hp}{Q:VK}{E:XK}{t b:Int} (hb:b≠0) (sb:Smk b) (q:Told H t b Q):spFrac C [.int t,.int b] H Q E:=by
 refine⟨_,_,.int t,.int b,rfl,rfl,rfl,λ a b' e=>?_,λ e=>?_⟩
 ·obtain⟨e1,e2,_⟩:=frOk_shape e
  cases e1;cases e2
  exact⟨sb,q⟩
 ·rw[frOk_yes hb] at e;cases e
theorem told_new {H:Hp}{t b:Int}{r:Rat}{Q:VK} (e:frT t b=r.num/\frB t b=(r.den:Int)) (q:NewFr H r Q):Told H t b Q:=λ x hx=>by
 refine q x _ (same_new hx _) ?_
 rw[upd_same,e.1,e.2]
structure FrA (H:Hp) (f:Addr) (r:Rat):Prop where
 ob:H f=some (.tup [.int r.num,.int (r.den:Int)])
 st:Sz 4400 r.num
 sb:Sz 4400 (r.den:Int)
theorem FrA.keep {H H':Hp}{f:Addr}{r:Rat} (h:FrA H f r) (s:Same H H'):FrA H' f r:=⟨s _ _ h.ob,h.st,h.sb⟩
noncomputable def spBinR (g:Rat->Rat->Rat):Sp:=λ vs H Q _=>∃ f h r s,vs = [.ref f,.ref h]/\FrA H f r/\FrA H h s/\NewFr H (g r s) Q
noncomputable abbrev spPlus:Sp:=spBinR λ r s=>r+s
noncomputable abbrev spMinus:Sp:=spBinR λ r s=>r-s
theorem sc_plus:FnScope ["one","other"] ["one","other"] (defScope s_plus):=⟨rfl,rfl,rfl,by decide +kernel,rfl,by decide +kernel,by decide +kernel⟩
theorem ok_plus {C:CA}{f:Addr}{fd:FuncData} (F:Fun K "plus" "plus" s_plus f fd) (T:Txt mg) {ffrac:Addr}{dfrac:FuncData} (Gfrac:FnOk P w K mg base (CXX P w) 3 ffrac dfrac ["top","bottom"] (spFrac C)) (bfrac:Binds K dfrac ["top","bottom"] []) (kfrac:PySem.W.keepIn K (.ref ffrac)=true) (mfrac:mg "fraction" = some (.ref ffrac)):FnOk P w K mg base CX0 4 f fd ["one","other"] spPlus:=by
 refine F.ok sc_plus (λ vs H Q E h=>?_) (λ cdv A outer s H vs Q E hr h=>?_)
 ·obtain⟨f,g,r,s,rfl,_⟩:=h
  rfl
 obtain⟨f,g,r,s,rfl,t,u,q⟩:=h
 refine⟨_,(pss_one (ps_ret (pe_call Gfrac hr rfl mfrac kfrac bfrac .nil passN (pa_cons (pe_op op_add (pe_op op_mulK (pe_ix ix_tup (pv 0) pe_int (λ _ _=>rfl)) (pe_ix ix_tup (pv 1) pe_int (λ _ _=>rfl))) (pe_op op_mulK (pe_ix ix_tup (pv 1) pe_int (λ _ _=>rfl)) (pe_ix ix_tup (pv 0) pe_int (λ _ _=>rfl)))) (pa_cons (pe_op op_mulK (pe_ix ix_tup (pv 0) pe_int (λ _ _=>rfl)) (pe_ix ix_tup (pv 1) pe_int (λ _ _=>rfl))) pa_nil))))),?_⟩
 refine⟨_,rfl,f,_,0,_,rfl,rfl,SqT.of t.ob,at0,_,rfl,g,_,1,_,rfl,rfl,SqT.of u.ob,at1,_,_,rfl,rfl,⟨t.st.smk (by decide),u.sb.smk (by decide)⟩,_,rfl,g,_,0,_,rfl,rfl,SqT.of u.ob,at0,_,rfl,f,_,1,_,rfl,rfl,SqT.of t.ob,at1,_,_,rfl,rfl,⟨u.st.smk (by decide),t.sb.smk (by decide)⟩,_,_,rfl,rfl,?_⟩
 refine⟨_,rfl,f,_,1,_,rfl,rfl,SqT.of t.ob,at1,_,rfl,g,_,1,_,rfl,rfl,SqT.of u.ob,at1,_,_,rfl,rfl,⟨t.sb.smk (by decide),u.sb.smk (by decide)⟩,?_⟩
 exact frac_ready (mul_ne (rden r) (rden s)) ((t.sb.mul u.sb).smk (by decide)) (told_new (fr_plus r s) q)
theorem sc_minus:FnScope ["one","other"] ["one","other"] (defScope s_minus):=⟨rfl,rfl,rfl,by decide +kernel,rfl,by decide +kernel,by decide +kernel⟩
theorem ok_minus {C:CA}{f:Addr}{fd:FuncData} (F:Fun K "minus" "minus" s_minus f fd) (T:Txt mg) {ffrac:Addr}{dfrac:FuncData} (Gfrac:FnOk P w K mg base (CXX P w) 3 ffrac dfrac ["top","bottom"] (spFrac C)) (bfrac:Binds K dfrac ["top","bottom"] []) (kfrac:PySem.W.keepIn K (.ref ffrac)=true) (mfrac:mg "fraction" = some (.ref ffrac)):FnOk P w K mg base CX0 4 f fd ["one","other"] spMinus:=by
 refine F.ok sc_minus (λ vs H Q E h=>?_) (λ cdv A outer s H vs Q E hr h=>?_)
 ·obtain⟨f,g,r,s,rfl,_⟩:=h
  rfl
 obtain⟨f,g,r,s,rfl,t,u,q⟩:=h
 refine⟨_,(pss_one (ps_ret (pe_call Gfrac hr rfl mfrac kfrac bfrac .nil passN (pa_cons (pe_op op_sub (pe_op op_mulK (pe_ix ix_tup (pv 0) pe_int (λ _ _=>rfl)) (pe_ix ix_tup (pv 1) pe_int (λ _ _=>rfl))) (pe_op op_mulK (pe_ix ix_tup (pv 1) pe_int (λ _ _=>rfl)) (pe_ix ix_tup (pv 0) pe_int (λ _ _=>rfl)))) (pa_cons (pe_op op_mulK (pe_ix ix_tup (pv 0) pe_int (λ _ _=>rfl)) (pe_ix ix_tup (pv 1) pe_int (λ _ _=>rfl))) pa_nil))))),?_⟩
 refine⟨_,rfl,f,_,0,_,rfl,rfl,SqT.of t.ob,at0,_,rfl,g,_,1,_,rfl,rfl,SqT.of u.ob,at1,_,_,rfl,rfl,⟨t.st.smk (by decide),u.sb.smk (by decide)⟩,_,rfl,g,_,0,_,rfl,rfl,SqT.of u.ob,at0,_,rfl,f,_,1,_,rfl,rfl,SqT.of t.ob,at1,_,_,rfl,rfl,⟨u.st.smk (by decide),t.sb.smk (by decide)⟩,_,_,rfl,rfl,?_⟩
 refine⟨_,rfl,f,_,1,_,rfl,rfl,SqT.of t.ob,at1,_,rfl,g,_,1,_,rfl,rfl,SqT.of u.ob,at1,_,_,rfl,rfl,⟨t.sb.smk (by decide),u.sb.smk (by decide)⟩,?_⟩
 exact frac_ready (mul_ne (rden r) (rden s)) ((t.sb.mul u.sb).smk (by decide)) (told_new (fr_minus r s) q)
structure Shp (H:Hp) (a:Addr) (p:Rat):Prop where
 ob:H a=some (.tup [.int p.num,.int (p.den:Int)])
 lo:0<=p
 hi:p<=1
 sz:Sz 300 (p.den:Int)
theorem Shp.keep {H H':Hp}{a:Addr}{p:Rat} (h:Shp H a p) (s:Same H H'):Shp H' a p:=⟨s _ _ h.ob,h.lo,h.hi,h.sz⟩
theorem shp_sz {m:Nat}{t b:Int} (h0:0<=t) (h1:t<=b) (hb:0<b) (sb:Sz m b):Sz m ((rq t b).den:Int):=by
 have hq : (b : Rat) ≠ 0 := by intro e; have : b = 0 := by exact_mod_cast e
                               omega
 have er:rq t b*(b:Rat)=(t:Rat):=by unfold rq;grind
 obtain⟨f1,f2⟩:=fr_rat (Int.ne_of_gt hb) er
 rw[<-f2]
 exact (Sz.fr (Int.ne_of_gt hb) (sz_le h0 h1 sb) sb).2
theorem Shp.num {H:Hp}{a:Addr}{p:Rat} (h:Shp H a p):0<=p.num/\p.num<=(p.den:Int):=⟨(r_nonneg p).mpr h.lo,(r_le1 p).mpr h.hi⟩
theorem Shp.sn {H:Hp}{a:Addr}{p:Rat} (h:Shp H a p):Sz 300 p.num:=sz_le h.num.1 h.num.2 h.sz
noncomputable def ShL (H:Hp):List Rat->List V->Prop
 | [],xs=>xs = []
 | r::rs,xs=>∃ a ys,xs=.ref a::ys/\Shp H a r/\ShL H rs ys
theorem ShL.keep {H H':Hp} (s:Same H H'):∀ {rs:List Rat}{xs:List V},ShL H rs xs->ShL H' rs xs
 | [],_,h=>h
 | _::_,_,⟨a,ys,e,h1,h2⟩=>⟨a,ys,e,h1.keep s,h2.keep s⟩
theorem ShL.len {H:Hp}:∀ {rs:List Rat}{xs:List V},ShL H rs xs->xs.length=rs.length
 | [],_,h=>by rw[show _ = [] from h];rfl
 | _::_,_,⟨a,ys,e,h1,h2⟩=>by rw[e,List.length_cons,List.length_cons,h2.len]
theorem ShL.get {H:Hp}:∀ {rs:List Rat}{xs:List V}{i:Nat}{r:Rat},ShL H rs xs->rs[i]? = some r->∃ a,xs[i]? = some (.ref a)/\Shp H a r
 | _::_,_,0,r,⟨a,ys,e,h1,h2⟩,q=>by
  rw[List.getElem?_cons_zero] at q;cases q
  exact⟨a,by rw[e];rfl,h1⟩
 | _::_,_,i+1,r,⟨a,ys,e,h1,h2⟩,q=>by
  rw[List.getElem?_cons_succ] at q
  obtain⟨b,f,g⟩:=h2.get q
  exact⟨b,by rw[e,List.getElem?_cons_succ];exact f,g⟩
theorem ShL.app {H:Hp}:∀ {rs ss:List Rat}{xs ys:List V},ShL H rs xs->ShL H ss ys->ShL H (rs++ss) (xs++ys)
 | [],_,_,_,h,k=>by rw[show _ = [] from h];exact k
 | _::_,_,_,_,⟨a,zs,e,h1,h2⟩,k=>by rw[e];exact⟨a,_,rfl,h1,h2.app k⟩
theorem ShL.take {H:Hp}:∀ {rs:List Rat}{xs:List V} (n:Nat),ShL H rs xs->ShL H (rs.take n) (xs.take n)
 | [],_,n,h=>by rw[show _ = [] from h];simp [ShL]
 | _::_,_,0,_=>rfl
 | _::_,_,n+1,⟨a,zs,e,h1,h2⟩=>by rw[e];exact⟨a,_,rfl,h1,h2.take n⟩
theorem ShL.drop {H:Hp}:∀ {rs:List Rat}{xs:List V} (n:Nat),ShL H rs xs->ShL H (rs.drop n) (xs.drop n)
 | [],_,n,h=>by rw[show _ = [] from h];simp [ShL]
 | _::_,_,0,h=>h
 | _::_,_,n+1,⟨a,zs,e,h1,h2⟩=>by rw[e];exact h2.drop n
theorem same_write {H H1:Hp}{l:Addr}{o:HO} (s:Same H H1) (hl:H l=none):Same H (upd H1 l o):=λ b u e=>by rw[upd_ne (ne_of_none e hl)];exact s b u e
theorem ShL.write {H:Hp}{l:Addr}{zs ws:List V} (hl:H l=some (.lst zs)):∀ {rs:List Rat}{xs:List V},ShL H rs xs->ShL (upd H l (.lst ws)) rs xs
 | [],_,h=>h
 | _::_,_,⟨a,ys,e,h1,h2⟩=>⟨a,ys,e,⟨by rw[upd_ne (ne_of h1.ob hl (by intro z;cases z))];exact h1.ob,h1.lo,h1.hi,h1.sz⟩,h2.write hl⟩
noncomputable def RowP (H:Hp):List (Rat×Rat)->List V->Prop
 | [],xs=>xs = []
 | p::ps,xs=>∃ a la ha ys,xs=.ref a::ys/\H a=some (.tup [.ref la,.ref ha])/\Shp H la p.1/\Shp H ha p.2/\RowP H ps ys
theorem RowP.keep {H H':Hp} (s:Same H H'):∀ {ps:List (Rat×Rat)}{xs:List V},RowP H ps xs->RowP H' ps xs
 | [],_,h=>h
 | _::_,_,⟨a,la,ha,ys,e,h0,h1,h2,h3⟩=>⟨a,la,ha,ys,e,s _ _ h0,h1.keep s,h2.keep s,h3.keep s⟩
theorem RowP.len {H:Hp}:∀ {ps:List (Rat×Rat)}{xs:List V},RowP H ps xs->xs.length=ps.length
 | [],_,h=>by rw[show _ = [] from h];rfl
 | _::_,_,⟨a,la,ha,ys,e,h0,h1,h2,h3⟩=>by rw[e,List.length_cons,List.length_cons,h3.len]
theorem RowP.get {H:Hp}:∀ {ps:List (Rat×Rat)}{xs:List V}{i:Nat}{p:Rat×Rat},RowP H ps xs->ps[i]? = some p->∃ a la ha,xs[i]? = some (.ref a)/\H a=some (.tup [.ref la,.ref ha])/\Shp H la p.1/\Shp H ha p.2
 | _::_,_,0,p,⟨a,la,ha,ys,e,h0,h1,h2,h3⟩,q=>by
  rw[List.getElem?_cons_zero] at q;cases q
  exact⟨a,la,ha,by rw[e];rfl,h0,h1,h2⟩
 | _::_,_,i+1,p,⟨a,la,ha,ys,e,h0,h1,h2,h3⟩,q=>by
  rw[List.getElem?_cons_succ] at q
  obtain⟨b,lb,hb,f,g⟩:=h3.get q
  exact⟨b,lb,hb,by rw[e,List.getElem?_cons_succ];exact f,g⟩
theorem RowP.app {H:Hp}:∀ {ps qs:List (Rat×Rat)}{xs ys:List V},RowP H ps xs->RowP H qs ys->RowP H (ps++qs) (xs++ys)
 | [],_,_,_,h,k=>by rw[show _ = [] from h];exact k
 | _::_,_,_,_,⟨a,la,ha,zs,e,h0,h1,h2,h3⟩,k=>by rw[e];exact⟨a,la,ha,_,rfl,h0,h1,h2,h3.app k⟩
theorem Shp.write {H:Hp}{l a:Addr}{zs ws:List V}{r:Rat} (hl:H l=some (.lst zs)) (h:Shp H a r):Shp (upd H l (.lst ws)) a r :=
 ⟨by rw[upd_ne (ne_of h.ob hl (by intro z;cases z))];exact h.ob,h.lo,h.hi,h.sz⟩
theorem RowP.write {H:Hp}{l:Addr}{zs ws:List V} (hl:H l=some (.lst zs)):∀ {ps:List (Rat×Rat)}{xs:List V},RowP H ps xs->RowP (upd H l (.lst ws)) ps xs
 | [],_,h=>h
 | _::_,_,⟨a,la,ha,ys,e,h0,h1,h2,h3⟩=>⟨a,la,ha,ys,e,by rw[upd_ne (ne_of h0 hl (by intro z;cases z))];exact h0,h1.write hl,h2.write hl,h3.write hl⟩
structure IsRule (n:Nat) (ps:List (Rat×Rat)):Prop where
 n1:1<=n
 n12:n<=12
 len:ps.length=n+1
 lows:Up (ps.map (·.1))
 highs:Up (ps.map (·.2))
 le:∀ p∈ps,p.1<=p.2
structure RuleAt (H:Hp) (x:Addr) (n:Nat) (ps:List (Rat×Rat)):Prop where
 ob:∃ t zs,H x=some (.tup [.int n,.ref t])/\H t=some (.tup zs)/\RowP H ps zs
 ok:IsRule n ps
theorem RuleAt.keep {H H':Hp}{x:Addr}{n:Nat}{ps:List (Rat×Rat)} (h:RuleAt H x n ps) (s:Same H H'):RuleAt H' x n ps:=by
 obtain⟨⟨t,zs,a,b,c⟩,ok⟩:=h
 exact⟨⟨t,zs,s _ _ a,s _ _ b,c.keep s⟩,ok⟩
theorem seq_by {t u:TS}{D:Ends}{σ:St}{H:Hp} (P:St->Hp->Prop) (h1:∀ N:St->Hp->Prop,(∀ σ H,P σ H->N σ H)->t {D with nx:=N} σ H) (h2:∀ σ H,P σ H->u D σ H):tSeq t u D σ H:=h1 _ h2
noncomputable def spPow:Sp:=λ vs H Q _=>∃ (b t:Int) (m:Nat),vs = [.int b,.int t]/\Sz m b/\0<=t/\m*t.toNat+1<=8900/\m<=8900/\t<=1000/\Q (.int (b^t.toNat)) H
theorem sc_pow:FnScope ["base","count","product","turn"] ["base","count"] (defScope s_pow):=⟨rfl,rfl,rfl,by decide +kernel,rfl,by decide +kernel,by decide +kernel⟩
theorem ok_pow {f:Addr}{fd:FuncData} (F:Fun K "power" "power" s_pow f fd) (T:Txt mg):FnOk P w K mg base CX0 1 f fd ["base","count"] spPow:=by
 refine F.ok sc_pow (λ vs H Q E h=>?_) (λ cdv A outer s H vs Q E hr h=>?_)
 ·obtain⟨b,t,m,rfl,_⟩:=h
  rfl
 obtain⟨b,t,m,rfl,sb,t0,t1,t2,t3,q⟩:=h
 refine⟨_,(pss_cons (ps_set (i:=2) sc_pow.nd rfl (Or.inl rfl) pe_int)
  (pss_cons (ps_for PassesOwn.never rfl (pi_range1 rfl T.range (pa_cons (pv 1) pa_nil)) (pg_name (i:=3) sc_pow.nd rfl (Or.inl rfl)) (pss_one (ps_set (i:=2) sc_pow.nd rfl (Or.inl rfl) (pe_op op_mulK (pv 2) (pv 0)))))
  (pss_one (ps_ret (pv 2))))),?_⟩
 refine⟨_,rfl,_,rfl,by omega,by omega,?_⟩
 refine for_range (lo:=0) (λ i σ H'=>H'=H/\∃ v,σ = [some (.int b),some (.int t),some (.int (b^i)),v]) ⟨rfl,none,by rw[Int.pow_zero]<;>rfl⟩ ?_ ?_
 ·rintro i σ H' hi ⟨rfl,v,rfl⟩
  refine⟨_,rfl,_,rfl,_,_,rfl,rfl,⟨(sb.powN i).smk (Nat.le_trans (Nat.add_le_add_right (Nat.mul_le_mul_left m (Nat.le_of_lt hi)) 1) t1),sb.smk t2⟩,rfl,some (.int (0+(i:Int))),?_⟩
  rw[Int.pow_succ]<;>rfl
 ·rintro σ H' ⟨rfl,v,rfl⟩
  exact⟨_,rfl,q⟩
theorem cho_nat {n k:Nat} (h:k<=n):cho (n:Int) (k:Int)=(binom n k:Int):=by
 rw[cho_in (by omega) (by omega)]<;>rfl
theorem Shp.sd {H:Hp}{a:Addr}{p:Rat} (h:Shp H a p):Sz 300 ((p.den:Int)-p.num):=sz_sub h.num.1 h.num.2 h.sz
theorem NewFr.on {H H':Hp}{r:Rat}{Q:VK} (q:NewFr H r Q) (s:Same H H'):NewFr H' r Q:=λ a H'' s' e=>q a H'' (s.trans s') e
noncomputable def spWtop:Sp:=λ vs H Q _=>∃ (n k:Nat) (a:Addr) (p:Rat),vs = [.int n,.int k,.ref a]/\Shp H a p/\n<=12/\k<=n/\Q (.int (wtop p n k)) H
theorem sc_wtop:FnScope ["n","k","p"] ["n","k","p"] (defScope s_wtop):=⟨rfl,rfl,rfl,by decide +kernel,rfl,by decide +kernel,by decide +kernel⟩
theorem ok_wtop {f:Addr}{fd:FuncData} (F:Fun K "weight_top" "weight_top" s_wtop f fd) (T:Txt mg) {fcho:Addr}{dcho:FuncData} (Gcho:FnOk P w K mg base CX0 1 fcho dcho ["n","k"] spCho) (bcho:Binds K dcho ["n","k"] []) (kcho:PySem.W.keepIn K (.ref fcho)=true) (mcho:mg "choices" = some (.ref fcho)) {fpow:Addr}{dpow:FuncData} (Gpow:FnOk P w K mg base CX0 1 fpow dpow ["base","count"] spPow) (bpow:Binds K dpow ["base","count"] []) (kpow:PySem.W.keepIn K (.ref fpow)=true) (mpow:mg "power" = some (.ref fpow)):FnOk P w K mg base CX0 2 f fd ["n","k","p"] spWtop:=by
 refine F.ok sc_wtop (λ vs H Q E h=>?_) (λ cdv A outer s H vs Q E hr h=>?_)
 ·obtain⟨n,k,a,p,rfl,_⟩:=h
  rfl
 obtain⟨n,k,a,p,rfl,sp,hn,hk,q⟩:=h
 refine⟨_,(pss_one (ps_ret (pe_op op_mulK (pe_op op_mulK (pe_call Gcho hr rfl mcho kcho bcho .nil pass0 (pa_cons (pv 0) (pa_cons (pv 1) pa_nil))) (pe_call Gpow hr rfl mpow kpow bpow .nil pass0 (pa_cons (pe_ix ix_tup (pv 2) pe_int (λ _ _=>rfl)) (pa_cons (pv 1) pa_nil)))) (pe_call Gpow hr rfl mpow kpow bpow .nil pass0 (pa_cons (pe_op op_sub (pe_ix ix_tup (pv 2) pe_int (λ _ _=>rfl)) (pe_ix ix_tup (pv 2) pe_int (λ _ _=>rfl))) (pa_cons (pe_op op_sub (pv 0) (pv 1)) pa_nil)))))),?_⟩
 have e1:((k:Int)).toNat=k:=rfl
 have e2:((n:Int)-(k:Int)).toNat=n-k:=by omega
 have s1:Sz (300*k+1) (p.num^k):=sp.sn.powN k
 have s2:Sz (300*(n-k)+1) (((p.den:Int)-p.num)^(n-k)):=sp.sd.powN (n-k)
 have s3:=(sz_binom n k).mul s1
 refine⟨_,rfl,_,rfl,n,k,rfl,by omega,_,rfl,a,_,0,_,rfl,rfl,SqT.of sp.ob,at0,_,rfl,p.num,k,300,rfl,sp.sn,by omega,by omega,by decide,by omega,?_⟩
 rw[cho_nat hk,e1]
 refine⟨_,_,rfl,rfl,⟨(sz_binom n k).smk (by omega),s1.smk (by omega)⟩,_,rfl,a,_,1,_,rfl,rfl,SqT.of sp.ob,at1,_,rfl,a,_,0,_,rfl,rfl,SqT.of sp.ob,at0,_,_,rfl,rfl,_,rfl,_,rfl,_,_,rfl,rfl,_,_,300,rfl,sp.sd,by omega,by omega,by decide,by omega,?_⟩
 rw[e2]
 exact⟨_,_,rfl,rfl,⟨s3.smk (by omega),s2.smk (by omega)⟩,q⟩
noncomputable def spRsum:Sp:=λ vs H Q _=>∃ (n i j:Nat) (a:Addr) (p:Rat),vs = [.int n,.int i,.int j,.ref a]/\Shp H a p/\n<=12/\i<=n/\j<=n/\NewFr H (rsum p n i j) Q
noncomputable def ipart (p:Rat) (n i d:Nat):Int:=ism (wtop p n) d-ism (wtop p n) i
theorem ipart_is (p:Rat) {n i d:Nat} (hi:i<=n+1) (hd:d<=n+1):rn p n i d*(((p.den:Int)^n:Int):Rat)=((ipart p n i d:Int):Rat):=by
 have a:=ism_cast (f:=wtop p n) (g:=wt p n) (c:=(((p.den:Int)^n:Int):Rat)) (m:=i) λ k hk=>wtop_is p (by omega)
 have b:=ism_cast (f:=wtop p n) (g:=wt p n) (c:=(((p.den:Int)^n:Int):Rat)) (m:=d) λ k hk=>wtop_is p (by omega)
 unfold rn cu ipart
 rw[Rat.intCast_sub,<-a,<-b];grind
theorem tops_sum (p:Rat) (n i m:Nat):((List.range m).map λ k=>wtop p n (i+k)).sum=ipart p n i (i+m):=by
 induction m with
 | zero=>simp [ipart]
 | succ m ih =>
  rw[List.range_succ,List.map_append,List.sum_append,ih,List.map_cons,List.map_nil,List.sum_cons,List.sum_nil]
  unfold ipart
  rw[<-Nat.add_assoc,ism]
  omega
theorem sc_rsum:FnScope ["n","i","j","p","tops"] ["n","i","j","p"] (defScope s_rsum):=⟨rfl,rfl,rfl,by decide +kernel,rfl,by decide +kernel,by decide +kernel⟩
theorem ok_rsum {C:CA}{f:Addr}{fd:FuncData} (F:Fun K "run_sum" "run_sum" s_rsum f fd) (T:Txt mg) {fwtop:Addr}{dwtop:FuncData} (Gwtop:FnOk P w K mg base CX0 3 fwtop dwtop ["n","k","p"] spWtop) (bwtop:Binds K dwtop ["n","k","p"] []) (kwtop:PySem.W.keepIn K (.ref fwtop)=true) (mwtop:mg "weight_top" = some (.ref fwtop)) {fpow:Addr}{dpow:FuncData} (Gpow:FnOk P w K mg base CX0 3 fpow dpow ["base","count"] spPow) (bpow:Binds K dpow ["base","count"] []) (kpow:PySem.W.keepIn K (.ref fpow)=true) (mpow:mg "power" = some (.ref fpow)) {ffrac:Addr}{dfrac:FuncData} (Gfrac:FnOk P w K mg base (CXX P w) 3 ffrac dfrac ["top","bottom"] (spFrac C)) (bfrac:Binds K dfrac ["top","bottom"] []) (kfrac:PySem.W.keepIn K (.ref ffrac)=true) (mfrac:mg "fraction" = some (.ref ffrac)):FnOk P w K mg base CX0 4 f fd ["n","i","j","p"] spRsum:=by
 refine F.ok sc_rsum (λ vs H Q E h=>?_) (λ cdv A outer s H vs Q E hr h=>?_)
 ·obtain⟨n,i,j,a,p,rfl,_⟩:=h
  rfl
 obtain⟨n,i,j,a,p,rfl,sp,hn,hi,hj,q⟩:=h
 refine⟨_,(pss_cons (ps_setC (i:=4) sc_rsum.nd rfl (Or.inl rfl) (xs:=["k"]) (ts:=[("n",0),("p",3)]) rfl ⟨rfl,sub2 rfl rfl,rfl,rfl,rfl,by decide +kernel,rfl,rfl⟩ (pi_range2 rfl T.range (pa_cons (pv 1) (pa_cons (pe_op op_add (pv 2) pe_int) pa_nil))) (λ C s3 H3 fp=>(pg_name (i:=0) (show (["k","n","p"]:List Str).Nodup by decide +kernel) rfl (Or.inl rfl) (Or.inr rfl))) (λ C s3 H3 fp=>pif_nil) (λ C s3 H3 fp=>(pe_call Gwtop hr rfl mwtop kwtop bwtop .nil pass0 (pa_cons (pv 1) (pa_cons (pv 0) (pa_cons (pv 2) pa_nil))))))
  (pss_one (ps_ret (pe_call Gfrac hr rfl mfrac kfrac bfrac .nil passN (pa_cons (pe_callB (call_sum rfl) rfl T.sum boot_sum (pa_cons (pv 4) pa_nil)) (pa_cons (pe_call Gpow hr rfl mpow kpow bpow .nil pass0 (pa_cons (pe_ix ix_tup (pv 3) pe_int (λ _ _=>rfl)) (pa_cons (pv 0) pa_nil))) pa_nil)))))),?_⟩
 refine⟨_,rfl,_,rfl,_,_,rfl,rfl,_,_,rfl,⟨by omega,by omega,by omega,by omega⟩,λ D hD=>?_⟩
 have em:i+((j:Int)+1-(i:Int)).toNat=max i (j+1):=by omega
 have lim:max i (j+1)<=n+1:=by omega
 refine comp_rangeG (λ m=>V.int (wtop p n (i+m))) hD (Nat.le_trans (show _<=40 by omega) (by decide)) ?_ ?_
 ·intro m H2 k hm sm hk
  have ek:(i:Int)+(m:Int)=((i+m:Nat):Int):=by omega
  rw[ek]
  exact⟨_,rfl,_,rfl,_,rfl,n,i+m,a,p,rfl,sp.keep sm,hn,by omega,hk H2 (Same.refl H2)⟩
 intro H2 s2 hD2
 refine⟨_,rfl,D,(List.range ((j:Int)+1-(i:Int)).toNat).map (λ m=>wtop p n (i+m)),rfl,SqL.of (by rw[hD2,List.map_map];rfl),?_⟩
 rw[tops_sum,em]
 refine⟨_,rfl,a,_,1,_,rfl,rfl,SqT.of (sp.keep s2).ob,at1,_,rfl,(p.den:Int),n,300,rfl,sp.sz,by omega,by omega,by decide,by omega,?_⟩
 have e3:((n:Int)).toNat=n:=rfl
 rw[e3]
 have dp:(0:Int)<(p.den:Int)^n:=Int.pow_pos (rden p)
 exact frac_ready (Int.ne_of_gt dp) ((sp.sz.powN n).smk (by omega)) (told_new (fr_rat (Int.ne_of_gt dp) (ipart_is p (show i<=n+1 by omega) lim)) (q.on s2))
theorem Shp.fr {H:Hp}{a:Addr}{p:Rat} (h:Shp H a p):FrA H a p:=⟨h.ob,h.sn.mono (by decide),h.sz.mono (by decide)⟩
noncomputable def spUnd:Sp:=λ vs H Q _=>∃ f g r s,vs = [.ref f,.ref g]/\FrA H f r/\FrA H g s/\Q (.bl (decide (r<s))) H
noncomputable def fqR (p:Rat):Fq:=(p.num,(p.den:Int))
theorem dec_lt (r s:Rat):decide (r.num*(s.den:Int)<s.num*(r.den:Int))=decide (r<s):=by
 by_cases c:r<s
 ·rw[decide_eq_true c,decide_eq_true ((r_under r s).mpr c)]
 ·rw[decide_eq_false c,decide_eq_false (λ z=>c ((r_under r s).mp z))]
theorem und_r (p q:Rat):und2 (fqR p) (fqR q)=decide (p<q):=dec_lt p q
theorem undI_of:∀ (vs:List V) (H:Hp) (Q:VK) (E:XK),spUnd vs H Q E->spUndI vs H Q E:=λ vs H Q E h=>by
 obtain⟨f,g,r,s,rfl,t,u,q⟩:=h
 exact⟨f,g,fqR r,fqR s,rfl,t.ob,u.ob,⟨t.st.smk (by decide),t.sb.smk (by decide)⟩,⟨u.st.smk (by decide),u.sb.smk (by decide)⟩,by rw[und_r];exact q⟩
theorem frA_of {H:Hp}{f:Addr}{r:Rat}{B:Nat} (e:H f=some (.tup [.int r.num,.int (r.den:Int)])) (h:Ov B r) (hB:0<B) (hn:B<2^4400) (h0:0<=r) (h1:r<=1):FrA H f r :=
 have z:=RSz.of h hB hn h0 h1
 ⟨e,z.t,z.b⟩
theorem Shp.den1 {H:Hp}{a:Addr}{p:Rat} (h:Shp H a p):0<p.den/\p.den<2^300:=⟨by have:=p.den_nz;omega,by have:=h.sz;unfold Sz at this;omega⟩
theorem Shp.pw {H:Hp}{a:Addr}{p:Rat} (h:Shp H a p) {n:Nat} (hn:n<=14):0<p.den^n/\p.den^n<2^4400:=by
 refine⟨Nat.pow_pos h.den1.1,?_⟩
 by_cases z:n=0
 ·subst z;rw[Nat.pow_zero];exact Nat.one_lt_two_pow (by decide)
 ·exact Nat.lt_of_lt_of_le (powlt h.den1.2 (by omega)) (Nat.pow_le_pow_right (by decide) (by omega))
theorem shp0 {H:Hp}{a:Addr} (h:H a=some (.tup [.int 0,.int 1])):Shp H a 0:=⟨h,by decide,by decide,by show (1:Nat)<2^300;decide⟩
theorem shp1 {H:Hp}{a:Addr} (h:H a=some (.tup [.int 1,.int 1])):Shp H a 1:=⟨h,by decide,by decide,by show (1:Nat)<2^300;decide⟩
noncomputable abbrev lowsOf (ps:List (Rat×Rat)):List Rat:=ps.map (·.1)
noncomputable abbrev highsOf (ps:List (Rat×Rat)):List Rat:=ps.map (·.2)
noncomputable def runOf (ps:List (Rat×Rat)) (a b:Rat):Option (Nat×Nat):=if lower b (highsOf ps)<upto a (lowsOf ps) then some (lower b (highsOf ps),upto a (lowsOf ps)-1) else none
noncomputable def RunV (H:Hp):Option (Nat×Nat)->V->Prop
 | none,v=>v=.non
 | some r,v=>∃ t,v=.ref t/\H t=some (.tup [.int (r.1:Int),.int (r.2:Int)])
theorem RunV.keep {H H':Hp} (s:Same H H'):∀ {r:Option (Nat×Nat)}{v:V},RunV H r v->RunV H' r v
 | none,_,h=>h
 | some _,_,⟨t,e,h⟩=>⟨t,e,s _ _ h⟩
theorem run_in {n:Nat}{ps:List (Rat×Rat)} (ok:IsRule n ps) {a b:Rat}{r:Nat×Nat} (h:runOf ps a b=some r):r.1<=r.2/\r.2<=n:=by
 unfold runOf at h
 split at h
 ·rename_i c
  cases h
  have:=upto_len a (lowsOf ps)
  rw[List.length_map,ok.len] at this
  exact⟨by show lower b (highsOf ps)<=upto a (lowsOf ps)-1;omega,by show upto a (lowsOf ps)-1<=n;omega⟩
 ·cases h
theorem lower_cnt {r:Rat}:∀ {l:List Rat},Up l->(l.filter λ x=>decide (x<r)).length=lower r l
 | [],_=>rfl
 | x::l,u=>by
  by_cases c:x<r
  ·have e:(x::l).filter (λ x=>decide (x<r))=x::l.filter (λ x=>decide (x<r)):=by simp [c]
   rw[e,List.length_cons,lower_cnt (List.pairwise_cons.mp u).2,lower,if_pos c]
  ·have e:(x::l).filter (λ x=>decide (x<r))=l.filter (λ x=>decide (x<r)):=by simp [c]
   rw[e,lower,if_neg c]
   have:l.filter (λ x=>decide (x<r)) = []:=by
    apply List.filter_eq_nil_iff.mpr
    intro y hy
    have:=(List.pairwise_cons.mp u).1 y hy
    simp
    grind
   rw[this]<;>rfl
theorem cnt_highs {ps:List (Rat×Rat)} (u:Up (highsOf ps)) (b:Rat):(ps.filter λ h=>decide (h.2<b)).length=lower b (highsOf ps):=by
 rw[<-lower_cnt u]
 unfold highsOf
 rw[List.filter_map,List.length_map]<;>rfl
theorem cnt_lows {ps:List (Rat×Rat)} (u:Up (lowsOf ps)) (a:Rat):(ps.filter λ h=>!decide (a<h.1)).length=upto a (lowsOf ps):=by
 rw[<-upto_cnt u]
 unfold lowsOf
 rw[List.filter_map,List.length_map]
 congr 1
 apply List.filter_congr
 intro x _
 by_cases c:a<x.1
 ·have:¬ x.1<=a:=by grind
  simp [c,this]
 ·have:x.1<=a:=by grind
  simp [c,this]
noncomputable def spRov:Sp:=λ vs H Q _=>∃ (x:Addr) (n:Nat) (ps:List (Rat×Rat)) (a b:Addr) (ra rb:Rat),vs = [.ref x,.ref a,.ref b]/\RuleAt H x n ps/\Shp H a ra/\Shp H b rb/\∀ v H',Same H H'->RunV H' (runOf ps ra rb) v->Q v H'
theorem sc_rov:FnScope ["rule","a","b","first","last"] ["rule","a","b"] (defScope s_rov):=⟨rfl,rfl,rfl,by decide +kernel,rfl,by decide +kernel,by decide +kernel⟩
theorem ok_rov {f:Addr}{fd:FuncData} (F:Fun K "run_over" "run_over" s_rov f fd) (T:Txt mg) {fund:Addr}{dund:FuncData} (Gund:FnOk P w K mg base CX0 1 fund dund ["one","other"] spUnd) (bund:Binds K dund ["one","other"] []) (kund:PySem.W.keepIn K (.ref fund)=true) (mund:mg "under" = some (.ref fund)):FnOk P w K mg base CX0 2 f fd ["rule","a","b"] spRov:=by
 refine F.ok sc_rov (λ vs H Q E h=>?_) (λ cdv A outer s H vs Q E hr h=>?_)
 ·obtain⟨x,n,ps,a,b,ra,rb,rfl,_⟩:=h
  rfl
 obtain⟨x,n,ps,a,b,ra,rb,rfl,⟨⟨t,zs,hx,ht,row⟩,ok⟩,sa,sb,q⟩:=h
 refine⟨_,(pss_cons (ps_set (i:=3) sc_rov.nd rfl (Or.inl rfl) (pe_callB call_len_seq rfl T.len boot_len (pa_cons (pe_compG (xs:=["low","high"]) (ts:=[("b",2)]) rfl ⟨rfl,sub1 rfl,rfl,rfl,rfl,by decide +kernel,rfl,rfl⟩ (pi_tup (pe_ix ix_tup (pv 0) pe_int (λ _ _=>rfl))) (λ C s3 H3 fp=>(pg_tupC (n:=2) rfl (pgs_cons (pg_name (i:=0) (show (["low","high","b"]:List Str).Nodup by decide +kernel) rfl (Or.inl rfl) (Or.inr rfl)) (pgs_cons (pg_name (i:=1) (show (["low","high","b"]:List Str).Nodup by decide +kernel) rfl (Or.inl rfl) (Or.inr rfl)) pgs_nil)))) (λ C s3 H3 fp=>(pif_one (pt_val (pe_call Gund hr rfl mund kund bund .nil pass0 (pa_cons (pv 1) (pa_cons (pv 2) pa_nil)))))) (λ C s3 H3 fp=>(pv 1))) pa_nil)))
  (pss_cons (ps_set (i:=4) sc_rov.nd rfl (Or.inl rfl) (pe_op op_sub (pe_callB call_len_seq rfl T.len boot_len (pa_cons (pe_compG (xs:=["low","high"]) (ts:=[("a",1)]) rfl ⟨rfl,sub1 rfl,rfl,rfl,rfl,by decide +kernel,rfl,rfl⟩ (pi_tup (pe_ix ix_tup (pv 0) pe_int (λ _ _=>rfl))) (λ C s3 H3 fp=>(pg_tupC (n:=2) rfl (pgs_cons (pg_name (i:=0) (show (["low","high","a"]:List Str).Nodup by decide +kernel) rfl (Or.inl rfl) (Or.inr rfl)) (pgs_cons (pg_name (i:=1) (show (["low","high","a"]:List Str).Nodup by decide +kernel) rfl (Or.inl rfl) (Or.inr rfl)) pgs_nil)))) (λ C s3 H3 fp=>(pif_one (pt_not (pt_val (pe_call Gund hr rfl mund kund bund .nil pass0 (pa_cons (pv 2) (pa_cons (pv 0) pa_nil))))))) (λ C s3 H3 fp=>(pv 0))) pa_nil)) pe_int))
  (pss_cons (ps_if (pt_cmpR op_gt (pv 3) (pv 4) (nomark _)) (pss_one (ps_ret pe_non)) pss_nil)
  (pss_one (ps_ret (pe_tup (pa_cons (pv 3) (pa_cons (pv 4) pa_nil)))))))),?_⟩
 have lz:=row.len
 have l13:=ok.len
 have n12:=ok.n12
 have big:zs.length<=sizeLine:=Nat.le_trans (show zs.length<=40 by omega) (by decide)
 refine⟨_,rfl,x,_,1,_,rfl,rfl,SqT.of hx,at1,t,rfl,⟨_,SqT.of ht⟩,λ D hD=>?_⟩
 refine comp_pairF ps (λ h=>decide (h.2<rb)) (λ h u v=>∃ la ha,u=.ref la/\v=.ref ha/\Shp H la h.1/\Shp H ha h.2) hD (SqT.of ht) (by omega) big ?_ ?_ ?_ ?_
 ·intro i h e
  obtain⟨c,la,ha,e1,e2,e3,e4⟩:=row.get e
  exact⟨c,_,_,e1,e2,la,ha,rfl,rfl,e3,e4⟩
 ·rintro h u v H2 k ⟨la,ha,rfl,rfl,s1,s2⟩ sm hk
  exact⟨_,rfl,_,rfl,ha,b,_,_,rfl,(s2.keep sm).fr,(sb.keep sm).fr,_,rfl,hk H2 (Same.refl H2)⟩
 ·rintro h u v H2 k ⟨la,ha,rfl,rfl,s1,s2⟩ sm hk
  exact⟨_,rfl,hk _ _ (Same.refl H2)⟩
 intro H1 ys s1 hD1 hl1
 rw[cnt_highs ok.highs] at hl1
 refine⟨D,ys,rfl,.inl (SqL.of hD1),?_⟩
 rw[hl1]
 refine⟨_,rfl,x,_,1,_,rfl,rfl,SqT.of (s1 _ _ hx),at1,t,rfl,⟨_,SqT.of (s1 _ _ ht)⟩,λ D' hD'=>?_⟩
 refine comp_pairF ps (λ h=>!decide (ra<h.1)) (λ h u v=>∃ la ha,u=.ref la/\v=.ref ha/\Shp H la h.1/\Shp H ha h.2) hD' (SqT.of (s1 _ _ ht)) (by omega) big ?_ ?_ ?_ ?_
 ·intro i h e
  obtain⟨c,la,ha,e1,e2,e3,e4⟩:=row.get e
  exact⟨c,_,_,e1,s1 _ _ e2,la,ha,rfl,rfl,e3,e4⟩
 ·rintro h u v H2 k ⟨la,ha,rfl,rfl,t1,t2⟩ sm hk
  exact⟨_,rfl,_,rfl,a,la,_,_,rfl,(sa.keep (s1.trans sm)).fr,(t1.keep (s1.trans sm)).fr,_,rfl,hk H2 (Same.refl H2)⟩
 ·rintro h u v H2 k ⟨la,ha,rfl,rfl,t1,t2⟩ sm hk
  exact⟨_,rfl,hk _ _ (Same.refl H2)⟩
 intro H2 ys' s2 hD2 hl2
 rw[cnt_lows ok.lows] at hl2
 refine⟨D',ys',rfl,.inl (SqL.of hD2),_,_,rfl,rfl,?_⟩
 rw[hl2]
 refine⟨_,rfl,_,rfl,_,_,rfl,rfl,_,rfl,?_⟩
 refine ite2 (λ c=>?_) (λ c=>?_)
 ·have c':(upto ra (lowsOf ps):Int)-1<(lower rb (highsOf ps):Int):=of_decide_eq_true c
  refine q _ _ (s1.trans s2) ?_
  unfold runOf
  rw[if_neg (by omega)]<;>rfl
 ·have c':=ofD c
  refine⟨_,rfl,_,rfl,(by show 2<=sizeLine;decide),λ r hr'=>q _ _ ((s1.trans s2).trans (same_new hr' _)) ?_⟩
  unfold runOf
  rw[if_pos (by omega)]
  refine⟨r,rfl,?_⟩
  rw[upd_same]
  have e:((upto ra (lowsOf ps):Int)-1)=((upto ra (lowsOf ps)-1:Nat):Int):=by omega
  show some (HO.tup [V.int _,V.int ((upto ra (lowsOf ps):Int)-1)])=_
  rw[e]
noncomputable def spHeld:Sp:=λ vs H Q _=>∃ (x:Addr) (n:Nat) (ps:List (Rat×Rat)) (a:Addr) (r:Rat),vs = [.ref x,.ref a]/\RuleAt H x n ps/\Shp H a r/\∀ v H',Same H H'->RunV H' (runOf ps r r) v->Q v H'
theorem sc_held:FnScope ["rule","p"] ["rule","p"] (defScope s_held):=⟨rfl,rfl,rfl,by decide +kernel,rfl,by decide +kernel,by decide +kernel⟩
theorem ok_held {f:Addr}{fd:FuncData} (F:Fun K "held" "held" s_held f fd) (T:Txt mg) {frov:Addr}{drov:FuncData} (Grov:FnOk P w K mg base CX0 2 frov drov ["rule","a","b"] spRov) (brov:Binds K drov ["rule","a","b"] []) (krov:PySem.W.keepIn K (.ref frov)=true) (mrov:mg "run_over" = some (.ref frov)):FnOk P w K mg base CX0 3 f fd ["rule","p"] spHeld:=by
 refine F.ok sc_held (λ vs H Q E h=>?_) (λ cdv A outer s H vs Q E hr h=>?_)
 ·obtain⟨x,n,ps,a,r,rfl,_⟩:=h
  rfl
 obtain⟨x,n,ps,a,r,rfl,hx,sa,q⟩:=h
 refine⟨_,(pss_one (ps_ret (pe_call Grov hr rfl mrov krov brov .nil pass0 (pa_cons (pv 0) (pa_cons (pv 1) (pa_cons (pv 1) pa_nil)))))),?_⟩
 exact⟨_,rfl,_,rfl,_,rfl,x,n,ps,a,a,r,r,rfl,hx,sa,sa,q⟩
noncomputable def rsumO (p:Rat) (n:Nat):Option (Nat×Nat)->Rat
 | none=>0
 | some r=>rsum p n r.1 r.2
theorem cov_run {n:Nat}{ps:List (Rat×Rat)} (a b p:Rat):rsumO p n (runOf ps a b)=cov n (lowsOf ps) (highsOf ps) a b p:=by
 unfold runOf cov
 split
 ·rename_i c
  show rn p n (lower b (highsOf ps)) (max (lower b (highsOf ps)) (upto a (lowsOf ps)-1+1))=_
  rw[show upto a (lowsOf ps)-1+1=upto a (lowsOf ps) by omega]
 ·rename_i c
  show (0:Rat)=_
  rw[Nat.max_eq_left (by omega)]
  unfold rn
  grind
noncomputable def spSor:Sp:=λ vs H Q _=>∃ (n:Nat) (v:V) (r:Option (Nat×Nat)) (a:Addr) (p:Rat),vs = [.int n,v,.ref a]/\RunV H r v/\Shp H a p/\n<=12/\(∀ z,r=some z->z.1<=z.2/\z.2<=n)/\NewFr H (rsumO p n r) Q
theorem sc_sor:FnScope ["n","run","p"] ["n","run","p"] (defScope s_sor):=⟨rfl,rfl,rfl,by decide +kernel,rfl,by decide +kernel,by decide +kernel⟩
theorem ok_sor {f:Addr}{fd:FuncData} (F:Fun K "sum_of_run" "sum_of_run" s_sor f fd) (T:Txt mg) {frsum:Addr}{drsum:FuncData} (Grsum:FnOk P w K mg base CX0 4 frsum drsum ["n","i","j","p"] spRsum) (brsum:Binds K drsum ["n","i","j","p"] []) (krsum:PySem.W.keepIn K (.ref frsum)=true) (mrsum:mg "run_sum" = some (.ref frsum)):FnOk P w K mg base CX0 5 f fd ["n","run","p"] spSor:=by
 refine F.ok sc_sor (λ vs H Q E h=>?_) (λ cdv A outer s H vs Q E hr h=>?_)
 ·obtain⟨n,v,r,a,p,rfl,_⟩:=h
  rfl
 obtain⟨n,v,r,a,p,rfl,rv,sp,hn,hz,q⟩:=h
 refine⟨_,(pss_cons (ps_if (pt_cmpR op_isN (pv 1) pe_non (nomark _)) (pss_one (ps_ret (pe_tup (pa_cons pe_int (pa_cons pe_int pa_nil))))) pss_nil)
  (pss_one (ps_ret (pe_call Grsum hr rfl mrsum krsum brsum .nil pass0 (pa_cons (pv 0) (pa_cons (pe_ix ix_tup (pv 1) pe_int (λ _ _=>rfl)) (pa_cons (pe_ix ix_tup (pv 1) pe_int (λ _ _=>rfl)) (pa_cons (pv 2) pa_nil)))))))),?_⟩
 cases r with
 | none =>
  have e:v=V.non:=rv
  subst e
  refine⟨_,rfl,rfl,_,rfl,iteT ?_⟩
  refine⟨(by show 2<=sizeLine;decide),λ t ht=>q t _ (same_new ht _) ?_⟩
  rw[upd_same]<;>rfl
 | some z =>
  obtain⟨t,e,ht⟩:=rv
  subst e
  obtain⟨z1,z2⟩:=hz z rfl
  refine⟨_,rfl,rfl,_,rfl,iteF ?_⟩
  exact⟨_,rfl,_,rfl,t,_,0,_,rfl,rfl,SqT.of ht,at0,_,rfl,t,_,1,_,rfl,rfl,SqT.of ht,at1,_,rfl,n,z.1,z.2,a,p,rfl,sp,hn,by omega,z2,q⟩
noncomputable def spCov:Sp:=λ vs H Q _=>∃ (x:Addr) (n:Nat) (ps:List (Rat×Rat)) (a:Addr) (p:Rat),vs = [.ref x,.ref a]/\RuleAt H x n ps/\Shp H a p/\NewFr H (rsumO p n (runOf ps p p)) Q
theorem sc_cov:FnScope ["rule","p"] ["rule","p"] (defScope s_cov):=⟨rfl,rfl,rfl,by decide +kernel,rfl,by decide +kernel,by decide +kernel⟩
theorem ok_cov {f:Addr}{fd:FuncData} (F:Fun K "cover" "cover" s_cov f fd) (T:Txt mg) {fheld:Addr}{dheld:FuncData} (Gheld:FnOk P w K mg base CX0 5 fheld dheld ["rule","p"] spHeld) (bheld:Binds K dheld ["rule","p"] []) (kheld:PySem.W.keepIn K (.ref fheld)=true) (mheld:mg "held" = some (.ref fheld)) {fsor:Addr}{dsor:FuncData} (Gsor:FnOk P w K mg base CX0 5 fsor dsor ["n","run","p"] spSor) (bsor:Binds K dsor ["n","run","p"] []) (ksor:PySem.W.keepIn K (.ref fsor)=true) (msor:mg "sum_of_run" = some (.ref fsor)):FnOk P w K mg base CX0 6 f fd ["rule","p"] spCov:=by
 refine F.ok sc_cov (λ vs H Q E h=>?_) (λ cdv A outer s H vs Q E hr h=>?_)
 ·obtain⟨x,n,ps,a,p,rfl,_⟩:=h
  rfl
 obtain⟨x,n,ps,a,p,rfl,hx,sa,q⟩:=h
 refine⟨_,(pss_one (ps_ret (pe_call Gsor hr rfl msor ksor bsor .nil pass0 (pa_cons (pe_ix ix_tup (pv 0) pe_int (λ _ _=>rfl)) (pa_cons (pe_call Gheld hr rfl mheld kheld bheld .nil pass0 (pa_cons (pv 0) (pa_cons (pv 1) pa_nil))) (pa_cons (pv 1) pa_nil)))))),?_⟩
 obtain⟨t,zs,ex,et,row⟩:=hx.ob
 refine⟨_,rfl,x,_,0,_,rfl,rfl,SqT.of ex,at0,_,rfl,_,rfl,x,n,ps,a,p,rfl,hx,sa,λ v H1 s1 rv=>?_⟩
 exact⟨_,rfl,n,v,_,a,p,rfl,rv,sa.keep s1,hx.ok.n12,λ z hz=>run_in hx.ok hz,q.on s1⟩
noncomputable def rimL (ps:List (Rat×Rat)):List Rat:=0::1::ps.flatMap λ p=>[p.1,p.2]
theorem rimL_len (ps:List (Rat×Rat)):(rimL ps).length=2+2*ps.length:=by
 unfold rimL
 induction ps with
 | nil=>rfl
 | cons p ps ih=>simp only[List.flatMap_cons,List.length_cons,List.length_append,List.length_nil] at ih ⊢;omega
theorem rimL_snoc (ps:List (Rat×Rat)) (p:Rat×Rat):rimL (ps++[p])=rimL ps++[p.1,p.2]:=by
 unfold rimL
 rw[List.flatMap_append]<;>rfl
theorem prs_of {H:Hp}:∀ {rs:List Rat}{xs:List V},ShL H rs xs->Prs H (rs.map λ r=>(r.num,(r.den:Int))) xs
 | [],_,h=>h
 | _::_,_,⟨a,ys,e,h1,h2⟩=>⟨a,ys,e,h1.ob,prs_of h2⟩
theorem any_mem (rs:List Rat) (r:Rat):((rs.map λ r=>(r.num,(r.den:Int))).any λ w=>decide (w=(r.num,(r.den:Int))))=decide (r∈rs):=by
 rw[Bool.eq_iff_iff,List.any_eq_true,decide_eq_true_iff]
 constructor
 ·rintro⟨w,hw,e⟩
  obtain⟨s,hs,rfl⟩:=List.mem_map.mp hw
  have e':=of_decide_eq_true e
  simp only[Prod.mk.injEq] at e'
  rw[<-r_same e'.1 e'.2]
  exact hs
 ·intro h
  exact⟨_,List.mem_map.mpr ⟨r,h,rfl⟩,decide_eq_true rfl⟩
noncomputable def spEdges:Sp:=λ vs H Q _=>∃ (x:Addr) (n:Nat) (ps:List (Rat×Rat)),vs = [.ref x]/\RuleAt H x n ps/\∀ l H' ws,H l=none->Same H H'->H' l=some (.lst ws)->ShL H' (edg (rimL ps)) ws->Q (.ref l) H'
theorem sc_edges:FnScope ["rule","ends","stretch","told","end","place"] ["rule"] (defScope s_edges):=⟨rfl,rfl,rfl,by decide +kernel,rfl,by decide +kernel,by decide +kernel⟩
theorem ok_edges {f:Addr}{fd:FuncData} (F:Fun K "edges" "edges" s_edges f fd) (T:Txt mg) {fund:Addr}{dund:FuncData} (Gund:FnOk P w K mg base CX0 1 fund dund ["one","other"] spUnd) (bund:Binds K dund ["one","other"] []) (kund:PySem.W.keepIn K (.ref fund)=true) (mund:mg "under" = some (.ref fund)):FnOk P w K mg base CX0 2 f fd ["rule"] spEdges:=by
 refine F.ok sc_edges (λ vs H Q E h=>?_) (λ cdv A outer s H vs Q E hr h=>?_)
 ·obtain⟨x,n,ps,rfl,_⟩:=h
  rfl
 obtain⟨x,n,ps,rfl,⟨⟨t,zs,hx,ht,row⟩,ok⟩,q⟩:=h
 refine⟨_,(pss_cons (ps_set (i:=1) sc_edges.nd rfl (Or.inl rfl) (pe_lst (pa_cons (pe_tup (pa_cons pe_int (pa_cons pe_int pa_nil))) (pa_cons (pe_tup (pa_cons pe_int (pa_cons pe_int pa_nil))) pa_nil))))
  (pss_cons (ps_for PassesOwn.never rfl (pi_tup (pe_ix ix_tup (pv 0) pe_int (λ _ _=>rfl))) (pg_name (i:=2) sc_edges.nd rfl (Or.inl rfl)) (pss_one (ps_expr (pe_bm PySem.F.plainAttrs_list PySem.F.slot_list_extend PySem.F.type_list_extend mt_extendT (pv 1) (pa_cons (pv 2) pa_nil)))))
  (pss_cons (ps_set (i:=3) sc_edges.nd rfl (Or.inl rfl) (pe_lst pa_nil))
  (pss_cons (ps_for PassesOwn.never rfl (pi_list (pv 1)) (pg_name (i:=4) sc_edges.nd rfl (Or.inr rfl)) (pss_one (ps_if (pt_cmpR (op_notInP hr.units) (pv 4) (pv 3) (by with_unfolding_all rfl)) (pss_cons (ps_set (i:=5) sc_edges.nd rfl (Or.inl rfl) (pe_callB call_len_seq rfl T.len boot_len (pa_cons (pe_compG (xs:=["edge"]) (ts:=[("end",4)]) rfl ⟨rfl,sub1 rfl,rfl,rfl,rfl,by decide +kernel,rfl,rfl⟩ (pi_list (pv 3)) (λ C s3 H3 fp=>(pg_name (i:=0) (show (["edge","end"]:List Str).Nodup by decide +kernel) rfl (Or.inl rfl) (Or.inr rfl))) (λ C s3 H3 fp=>(pif_one (pt_val (pe_call Gund hr rfl mund kund bund .nil pass0 (pa_cons (pv 0) (pa_cons (pv 1) pa_nil)))))) (λ C s3 H3 fp=>(pv 0))) pa_nil)))
    (pss_one (ps_expr (pe_bm PySem.F.plainAttrs_list PySem.F.slot_list_insert PySem.F.type_list_insert mt_insert (pv 3) (pa_cons (pv 5) (pa_cons (pv 4) pa_nil)))))) pss_nil)))
  (pss_one (ps_ret (pv 3))))))),?_⟩
 have lz:=row.len
 have l13:=ok.len
 have n12:=ok.n12
 refine⟨(by show 2<=sizeLine;decide),λ a0 h0=>⟨(by show 2<=sizeLine;decide),λ a1 h1=>⟨(by show 2<=sizeLine;decide),λ l hl=>?_⟩⟩⟩
 have s0:=same_new h0 (.tup [V.int 0,V.int 1])
 have s1:=same_new h1 (.tup [V.int 1,V.int 1])
 have s2:=same_new hl (.lst [V.ref a0,V.ref a1])
 have s02:=(s0.trans s1).trans s2
 have p0:=((shp0 (H:=upd H a0 (.tup [V.int 0,V.int 1])) upd_same).keep s1).keep s2
 have p1:=(shp1 (H:=upd (upd H a0 (.tup [V.int 0,V.int 1])) a1 (.tup [V.int 1,V.int 1])) upd_same).keep s2
 refine⟨_,rfl,x,_,1,_,rfl,rfl,SqT.of (s02 _ _ hx),at1,t,rfl,⟨_,SqT.of (s02 _ _ ht)⟩,?_⟩
 have hln:H l=none:=by
  cases e:H l with
  | none=>rfl
  | some o=>rw[s1 _ _ (s0 _ _ e)] at hl;cases hl
 refine for_tup (xs:=zs) (λ i σ H'=>Same H H'/\∃ ws v1 v2 v3 v4,σ = [some (.ref x),some (.ref l),v1,v2,v3,v4]/\H' l=some (.lst ws)/\ShL H' (rimL (ps.take i)) ws) ⟨s02,_,none,none,none,none,rfl,upd_same,a0,_,rfl,p0,a1,_,rfl,p1,rfl⟩ ?_ ?_ ?_
 ·rintro i σ H' hi ⟨sm,_⟩
  exact SqT.of (sm _ _ ht)
 ·rintro i z σ H' hz ⟨sm,ws,v1,v2,v3,v4,rfl,hl',shw⟩
  have hi:i<ps.length:=by rw[<-lz];exact (List.getElem?_eq_some_iff.mp hz).1
  have ep:=List.getElem?_eq_getElem hi
  obtain⟨d,la,ha,e1,e2,e3,e4⟩:=(row.keep sm).get ep
  rw[hz] at e1
  cases e1
  have lw:=shw.len
  rw[rimL_len] at lw
  have lt:(ps.take i).length=i:=by simp;omega
  refine⟨_,rfl,.inl ⟨rfl,_,SqL.of hl'⟩,_,rfl,l,d,ws,_,rfl,rfl,hl',e2,Nat.le_trans (show _<=60 by simp;omega) (by decide),?_⟩
  refine⟨same_write sm hln,_,_,_,_,_,rfl,upd_same,?_⟩
  rw[List.take_add_one,ep]
  show ShL _ (rimL (ps.take i++[ps[i]])) _
  rw[rimL_snoc]
  exact (shw.app (show ShL _ [_,_] [.ref la,.ref ha] from ⟨la,_,rfl,e3,ha,_,rfl,e4,rfl⟩)).write hl'
 rintro σ H1 ⟨sm1,ws,v1,v2,v3,v4,rfl,hl1,shw⟩
 rw[List.take_of_length_le (by omega)] at shw
 have lw:=shw.len
 have lr:=rimL_len ps
 refine⟨Nat.zero_le _,λ m hm=>?_⟩
 have s3:=same_new hm (.lst [])
 have sm2:=sm1.trans s3
 have hmn:H m=none:=by
  cases e:H m with
  | none=>rfl
  | some o=>rw[sm1 _ _ e] at hm;cases hm
 have nml:m≠l:=λ e=>by rw[e,hl1] at hm;cases hm
 refine⟨_,rfl,l,rfl,⟨_,SqL.of (s3 _ _ hl1)⟩,?_⟩
 refine for_list (xs:=ws) (λ i σ H'=>Same H H'/\∃ us v1 v3 v4,σ = [some (.ref x),some (.ref l),v1,some (.ref m),v3,v4]/\H' l=some (.lst ws)/\ShL H' (rimL ps) ws/\H' m=some (.lst us)/\ShL H' (edg ((rimL ps).take i)) us) ⟨sm2,[],v1,v3,v4,rfl,s3 _ _ hl1,shw.keep s3,upd_same,rfl⟩ ?_ ?_ ?_
 ·rintro i σ H' hi ⟨sm,us,u1,u3,u4,rfl,hl',_⟩
  exact SqL.of hl'
 ·rintro i z σ H' hz ⟨sm,us,u1,u3,u4,rfl,hl',shl',hm',shu⟩
  have hi:i<(rimL ps).length:=by rw[<-lw];exact (List.getElem?_eq_some_iff.mp hz).1
  have ep:=List.getElem?_eq_getElem hi
  obtain⟨b,e1,sb⟩:=shl'.get ep
  rw[hz] at e1
  cases e1
  generalize (rimL ps)[i]=r at *
  have tk:(rimL ps).take (i+1)=(rimL ps).take i++[r]:=by rw[List.take_add_one,ep];rfl
  have lu:=shu.len
  have l40:us.length<=40:=by
   rw[lu]
   exact Nat.le_trans (edg_len _) (by simp;omega)
  obtain⟨inc,_⟩:=edg_ok ((rimL ps).take i)
  rw[tk,edg_snoc]
  generalize edg ((rimL ps).take i)=acc at *
  refine⟨_,rfl,_,rfl,m,us,_,b,(r.num,(r.den:Int)),rfl,rfl,SqL.of hm',prs_of shu,sb.ob,_,rfl,?_⟩
  rw[any_mem]
  by_cases c:r∈acc
  ·rw[decide_eq_true c]
   refine iteF ⟨sm,us,_,_,_,rfl,hl',shl',hm',?_⟩
   unfold addE
   rw[if_pos c]
   exact shu
  ·rw[decide_eq_false c]
   refine iteT ?_
   refine⟨_,rfl,m,rfl,⟨_,SqL.of hm'⟩,λ D hD=>?_⟩
   refine comp_listC acc (λ h=>decide (h<r)) (λ h u=>∃ a,u=.ref a/\Shp H' a h) hD (SqL.of hm') (by omega) (Nat.le_of_lt (lt40 l40)) ?_ ?_ ?_ ?_
   ·intro j h e
    obtain⟨a,f1,f2⟩:=shu.get e
    exact⟨_,f1,a,rfl,f2⟩
   ·rintro h u H2 k ⟨a,rfl,sa⟩ s4 hk
    exact⟨_,rfl,_,rfl,a,b,_,_,rfl,(sa.keep s4).fr,(sb.keep s4).fr,_,rfl,hk H2 (Same.refl H2)⟩
   ·rintro h u H2 k ⟨a,rfl,sa⟩ s4 hk
    exact⟨_,rfl,hk _ _ (Same.refl H2)⟩
   intro H2 ys s4 hD2 hly
   rw[lower_cnt inc.up] at hly
   have hm2:=s4 _ _ hm'
   have hl2:=s4 _ _ hl'
   have shu2:=shu.keep s4
   have sb2:=sb.keep s4
   refine⟨D,ys,rfl,.inl (SqL.of hD2),?_⟩
   rw[hly]
   have le:=lower_le r acc
   refine⟨_,rfl,.inl ⟨rfl,_,SqL.of hm2⟩,_,rfl,_,rfl,m,us,(lower r acc:Int),.ref b,rfl,rfl,hm2,by omega,by omega,lt40 l40,?_⟩
   have ek:((lower r acc:Int)).toNat=lower r acc:=rfl
   rw[ek]
   refine⟨same_write (sm.trans s4) hmn,_,_,_,_,rfl,by rw[upd_ne (Ne.symm nml)];exact hl2,(shl'.keep s4).write hm2,upd_same,?_⟩
   unfold addE
   rw[if_neg c]
   unfold insR
   have z:=((shu2.take (lower r acc)).app (show ShL _ [r] [.ref b] from ⟨b,[],rfl,sb2,rfl⟩)).app (shu2.drop (lower r acc))
   have z':=z.write (l:=m) (zs:=us) hm2 (ws:=us.take (lower r acc)++.ref b::us.drop (lower r acc))
   rw[List.append_assoc,List.append_assoc] at z'
   exact z'
 ·rintro σ H' ⟨sm,us,u1,u3,u4,rfl,hl',shl',hm',shu⟩
  rw[lw,List.take_length] at shu
  exact⟨_,rfl,q m H' us hmn sm hm' shu⟩
theorem none_back {H H':Hp}{a:Addr} (s:Same H H') (h:H' a=none):H a=none:=by
 cases e:H a with
 | none=>rfl
 | some o=>rw[s _ _ e] at h;cases h
noncomputable abbrev Pc:=Rat×Rat×Option (Nat×Nat)
noncomputable def PcL (H:Hp):List Pc->List V->Prop
 | [],xs=>xs = []
 | p::ps,xs=>∃ t a b v ys,xs=.ref t::ys/\H t=some (.tup [.ref a,.ref b,v])/\Shp H a p.1/\Shp H b p.2.1/\RunV H p.2.2 v/\PcL H ps ys
theorem PcL.keep {H H':Hp} (s:Same H H'):∀ {ps:List Pc}{xs:List V},PcL H ps xs->PcL H' ps xs
 | [],_,h=>h
 | _::_,_,⟨t,a,b,v,ys,e,h0,h1,h2,h3,h4⟩=>⟨t,a,b,v,ys,e,s _ _ h0,h1.keep s,h2.keep s,h3.keep s,h4.keep s⟩
theorem RunV.write {H:Hp}{l:Addr}{zs ws:List V} (hl:H l=some (.lst zs)):∀ {r:Option (Nat×Nat)}{v:V},RunV H r v->RunV (upd H l (.lst ws)) r v
 | none,_,h=>h
 | some _,_,⟨t,e,h⟩=>⟨t,e,by rw[upd_ne (ne_of h hl (by intro z;cases z))];exact h⟩
theorem PcL.write {H:Hp}{l:Addr}{zs ws:List V} (hl:H l=some (.lst zs)):∀ {ps:List Pc}{xs:List V},PcL H ps xs->PcL (upd H l (.lst ws)) ps xs
 | [],_,h=>h
 | _::_,_,⟨t,a,b,v,ys,e,h0,h1,h2,h3,h4⟩=>⟨t,a,b,v,ys,e,by rw[upd_ne (ne_of h0 hl (by intro z;cases z))];exact h0,h1.write hl,h2.write hl,h3.write hl,h4.write hl⟩
theorem PcL.len {H:Hp}:∀ {ps:List Pc}{xs:List V},PcL H ps xs->xs.length=ps.length
 | [],_,h=>by rw[show _ = [] from h];rfl
 | _::_,_,⟨t,a,b,v,ys,e,h0,h1,h2,h3,h4⟩=>by rw[e,List.length_cons,List.length_cons,h4.len]
theorem PcL.get {H:Hp}:∀ {ps:List Pc}{xs:List V}{i:Nat}{p:Pc},PcL H ps xs->ps[i]? = some p->∃ t a b v,xs[i]? = some (.ref t)/\H t=some (.tup [.ref a,.ref b,v])/\Shp H a p.1/\Shp H b p.2.1/\RunV H p.2.2 v
 | _::_,_,0,p,⟨t,a,b,v,ys,e,h0,h1,h2,h3,h4⟩,q=>by
  rw[List.getElem?_cons_zero] at q;cases q
  exact⟨t,a,b,v,by rw[e];rfl,h0,h1,h2,h3⟩
 | _::_,_,i+1,p,⟨t,a,b,v,ys,e,h0,h1,h2,h3,h4⟩,q=>by
  rw[List.getElem?_cons_succ] at q
  obtain⟨t',a',b',v',f,g⟩:=h4.get q
  exact⟨t',a',b',v',by rw[e,List.getElem?_cons_succ];exact f,g⟩
theorem PcL.app {H:Hp}:∀ {ps qs:List Pc}{xs ys:List V},PcL H ps xs->PcL H qs ys->PcL H (ps++qs) (xs++ys)
 | [],_,_,_,h,k=>by rw[show _ = [] from h];exact k
 | _::_,_,_,_,⟨t,a,b,v,zs,e,h0,h1,h2,h3,h4⟩,k=>by rw[e];exact⟨t,a,b,v,_,rfl,h0,h1,h2,h3,h4.app k⟩
noncomputable def pieceL (es:List Rat) (ps:List (Rat×Rat)):List Pc:=(List.range (es.length-1)).map λ k=>(es.getD k 0,es.getD (k+1) 0,runOf ps (es.getD k 0) (es.getD (k+1) 0))
theorem pieceL_take (es:List Rat) (ps:List (Rat×Rat)) {i:Nat} (h:i<es.length-1):(pieceL es ps).take (i+1)=(pieceL es ps).take i++[(es.getD i 0,es.getD (i+1) 0,runOf ps (es.getD i 0) (es.getD (i+1) 0))]:=by
 have:(pieceL es ps)[i]? = some (es.getD i 0,es.getD (i+1) 0,runOf ps (es.getD i 0) (es.getD (i+1) 0)):=by
  unfold pieceL
  rw[List.getElem?_map,List.getElem?_range h]<;>rfl
 rw[List.take_add_one,this]<;>rfl
theorem pieceL_len (es:List Rat) (ps:List (Rat×Rat)):(pieceL es ps).length=es.length-1:=by simp [pieceL]
theorem edg_two (ps:List (Rat×Rat)):2<=(edg (rimL ps)).length:=by
 have m0:(0:Rat)∈edg (rimL ps):=((edg_ok _).2 0).mpr (List.mem_cons_self ..)
 have m1:(1:Rat)∈edg (rimL ps):=((edg_ok _).2 1).mpr (List.mem_cons_of_mem _ (List.mem_cons_self ..))
 match he:edg (rimL ps) with
 | []=>rw[he] at m0;cases m0
 | [z] =>
  rw[he] at m0 m1
  have e0:=List.mem_singleton.mp m0
  have e1:=List.mem_singleton.mp m1
  exact absurd (e0.trans e1.symm) (by decide)
 | _::_::_=>simp
noncomputable def spPieces:Sp:=λ vs H Q _=>∃ (x:Addr) (n:Nat) (ps:List (Rat×Rat)),vs = [.ref x]/\RuleAt H x n ps/\∀ l H' ws,H l=none->Same H H'->H' l=some (.lst ws)->PcL H' (pieceL (edg (rimL ps)) ps) ws->Q (.ref l) H'
theorem sc_pieces:FnScope ["rule","rising"] ["rule"] (defScope s_pieces):=⟨rfl,rfl,rfl,by decide +kernel,rfl,by decide +kernel,by decide +kernel⟩
theorem ok_pieces {f:Addr}{fd:FuncData} (F:Fun K "pieces" "pieces" s_pieces f fd) (T:Txt mg) {fedges:Addr}{dedges:FuncData} (Gedges:FnOk P w K mg base CX0 2 fedges dedges ["rule"] spEdges) (bedges:Binds K dedges ["rule"] []) (kedges:PySem.W.keepIn K (.ref fedges)=true) (medges:mg "edges" = some (.ref fedges)) {frov:Addr}{drov:FuncData} (Grov:FnOk P w K mg base CX0 2 frov drov ["rule","a","b"] spRov) (brov:Binds K drov ["rule","a","b"] []) (krov:PySem.W.keepIn K (.ref frov)=true) (mrov:mg "run_over" = some (.ref frov)):FnOk P w K mg base CX0 3 f fd ["rule"] spPieces:=by
 refine F.ok sc_pieces (λ vs H Q E h=>?_) (λ cdv A outer s H vs Q E hr h=>?_)
 ·obtain⟨x,n,ps,rfl,_⟩:=h
  rfl
 obtain⟨x,n,ps,rfl,hx,q⟩:=h
 refine⟨_,(pss_cons (ps_set (i:=1) sc_pieces.nd rfl (Or.inl rfl) (pe_call Gedges hr rfl medges kedges bedges .nil pass0 (pa_cons (pv 0) pa_nil)))
  (pss_one (ps_ret (pe_compG (xs:=["a","b"]) (ts:=[("rule",0)]) rfl ⟨rfl,sub1 rfl,rfl,rfl,rfl,by decide +kernel,rfl,rfl⟩ (pi_zip rfl T.zip (pa_cons (pv 1) (pa_cons (pe_slice sl_list (pv 1) (po_some pe_int) po_none) pa_nil))) (λ C s3 H3 fp=>(pg_tupC (n:=2) rfl (pgs_cons (pg_name (i:=0) (show (["a","b","rule"]:List Str).Nodup by decide +kernel) rfl (Or.inl rfl) (Or.inr rfl)) (pgs_cons (pg_name (i:=1) (show (["a","b","rule"]:List Str).Nodup by decide +kernel) rfl (Or.inl rfl) (Or.inr rfl)) pgs_nil)))) (λ C s3 H3 fp=>pif_nil) (λ C s3 H3 fp=>(pe_tup (pa_cons (pv 0) (pa_cons (pv 1) (pa_cons (pe_call Grov hr rfl mrov krov brov .nil pass0 (pa_cons (pv 2) (pa_cons (pv 0) (pa_cons (pv 1) pa_nil)))) pa_nil))))))))),?_⟩
 refine⟨_,rfl,x,n,ps,rfl,hx,λ l H1 ws _ s1 hl shw=>?_⟩
 have lw:=shw.len
 have le:=edg_len (rimL ps)
 have lr:=rimL_len ps
 have l13:=hx.ok.len
 have n12:=hx.ok.n12
 have h2:2<=(edg (rimL ps)).length:=edg_two ps
 generalize hE:edg (rimL ps)=es at *
 refine⟨_,rfl,_,rfl,_,rfl,l,ws,rfl,SqL.of hl,λ m hm=>?_⟩
 have s2:=same_new hm (.lst (cutV ws (some 1) none))
 have ec:cutV ws (some 1) none=ws.drop 1:=cut_tail (by omega)
 rw[ec] at s2 ⊢
 refine⟨l,m,rfl,⟨_,SqL.of (s2 _ _ hl)⟩,⟨_,SqL.of upd_same⟩,λ D hD=>?_⟩
 have s12:=s1.trans s2
 have hx2:=hx.keep s12
 have shw2:=shw.keep s2
 refine comp_zipR (n:=es.length-1) (λ i zs H2=>PcL H2 ((pieceL es ps).take i) zs) hD (SqL.of (s2 _ _ hl)) (SqL.of upd_same) (by omega) (by simp;omega) (.inr (by simp;omega)) (Nat.le_of_lt (lt40 (by omega))) rfl ?_ ?_
 ·rintro i u v zs H2 H3 k hi hu hv sm sm3 e r hk
  obtain⟨a,ea,sa⟩:=(shw2.keep sm).get (show es[i]? = some (es.getD i 0) by rw[List.getD_eq_getElem?_getD,List.getElem?_eq_getElem (show i<es.length by omega)]<;>rfl)
  obtain⟨b,eb,sb⟩:=(shw2.keep sm).get (show es[i+1]? = some (es.getD (i+1) 0) by rw[List.getD_eq_getElem?_getD,List.getElem?_eq_getElem (show i+1<es.length by omega)]<;>rfl)
  rw[hu] at ea
  cases ea
  rw[List.getElem?_drop,Nat.add_comm,eb] at hv
  cases hv
  have sa3:=sa.keep sm3
  have sb3:=sb.keep sm3
  refine⟨_,rfl,_,rfl,_,rfl,_,rfl,_,rfl,x,n,ps,a,b,_,_,rfl,(hx2.keep sm).keep sm3,sa3,sb3,λ w H4 s4 rv=>?_⟩
  refine⟨(by show 3<=sizeLine;decide),λ t ht=>?_⟩
  have s5:=same_new ht (.tup [V.ref a,V.ref b,w])
  refine hk _ _ (s4.trans s5) ?_
  rw[pieceL_take es ps hi]
  exact (((r.keep sm3).keep (s4.trans s5)).app (show PcL _ [_] [.ref t] from ⟨t,a,b,w,[],rfl,upd_same,(sa3.keep s4).keep s5,(sb3.keep s4).keep s5,rv.keep s5,rfl⟩)).write ((s4.trans s5) _ _ (sm3 _ _ e))
 ·rintro zs H2 sm e hz r
  rw[List.take_of_length_le (by rw[pieceL_len];exact Nat.le_refl _)] at r
  exact q D H2 zs (none_back s12 hD) (s12.trans sm) e r
noncomputable abbrev Cd:=Rat×Rat×Bool×Rat
noncomputable def stepC:Option Cd->Cd->Option Cd
 | none,c=>some c
 | some d,c=>if c.1<d.1 then some c else some d
noncomputable def cdsOf (n:Nat) (p:Pc):List Cd:=[(rsumO p.1 n p.2.2,p.1,true,p.2.1),(rsumO p.2.1 n p.2.2,p.2.1,false,p.1)]
noncomputable def bestC (n:Nat) (l:List Pc):Option Cd:=(l.flatMap (cdsOf n)).foldl stepC none
theorem bestC_snoc (n:Nat) (l:List Pc) (p:Pc):bestC n (l++[p])=(cdsOf n p).foldl stepC (bestC n l):=by
 unfold bestC
 rw[List.flatMap_append,List.foldl_append]
 simp
theorem step_some (o:Option Cd) (c:Cd):∃ d,stepC o c=some d:=by
 cases o with
 | none=>exact⟨_,rfl⟩
 | some d =>
  show ∃ e,(if c.1<d.1 then some c else some d)=some e
  by_cases h:c.1<d.1
  ·exact⟨c,if_pos h⟩
  ·exact⟨d,if_neg h⟩
theorem fold_some:∀ (l:List Cd) (c:Cd),∃ d,l.foldl stepC (some c)=some d
 | [],c=>⟨c,rfl⟩
 | e::l,c=>by
  obtain⟨d,hd⟩:=step_some (some c) e
  rw[List.foldl_cons,hd]
  exact fold_some l d
theorem bestC_some {n:Nat}{l:List Pc} (h:l≠[]):∃ c,bestC n l=some c:=by
 cases l with
 | nil=>exact absurd rfl h
 | cons p l =>
  unfold bestC
  rw[List.flatMap_cons]
  exact fold_some _ _
noncomputable def sideS (b:Bool):Str:=if b then "above" else "below"
structure CdA (H:Hp) (x:Addr) (c:Cd):Prop where
 ob:∃ t a f,H x=some (.tup [.ref t,.ref a,.str (sideS c.2.2.1),.ref f])/\FrA H t c.1/\Shp H a c.2.1/\Shp H f c.2.2.2
theorem CdA.keep {H H':Hp}{x:Addr}{c:Cd} (h:CdA H x c) (s:Same H H'):CdA H' x c:=by
 obtain⟨t,a,f,e,h1,h2,h3⟩:=h.ob
 exact⟨t,a,f,s _ _ e,h1.keep s,h2.keep s,h3.keep s⟩
noncomputable def CdV (H:Hp):Option Cd->V->Prop
 | none,v=>v=.non
 | some c,v=>∃ x,v=.ref x/\CdA H x c
theorem CdV.keep {H H':Hp} (s:Same H H'):∀ {o:Option Cd}{v:V},CdV H o v->CdV H' o v
 | none,_,h=>h
 | some _,_,⟨x,e,h⟩=>⟨x,e,h.keep s⟩
theorem rsumO_unit {n:Nat}{p:Rat} (h0:0<=p) (h1:p<=1):∀ r,0<=rsumO p n r/\rsumO p n r<=1
 | none=>⟨by show (0:Rat)<=0;grind,by show (0:Rat)<=1;grind⟩
 | some z=>rsum_unit h0 h1 n z.1 z.2
theorem rsumO_ov {p:Rat}{B:Nat} (h:Ov B p) (n:Nat):∀ r,Ov (B^n) (rsumO p n r)
 | none=>⟨0,by show (0:Rat)*_=_;grind⟩
 | some z=>rsum_ov h n z.1 z.2
theorem fr_rsumO {H H':Hp}{a f:Addr}{p:Rat} (h:Shp H a p) {n:Nat} (hn:n<=12) {r:Option (Nat×Nat)} (e:H' f=some (.tup [.int (rsumO p n r).num,.int ((rsumO p n r).den:Int)])):FrA H' f (rsumO p n r) :=
 have u:=rsumO_unit (n:=n) h.lo h.hi r
 frA_of e (rsumO_ov (Ov.self p) n r) (h.pw (by omega)).1 (h.pw (by omega)).2 u.1 u.2
theorem piece_run {n:Nat}{ps:List (Rat×Rat)} (ok:IsRule n ps) {es:List Rat}{p:Pc} (hp:p∈pieceL es ps):∀ z,p.2.2=some z->z.1<=z.2/\z.2<=n:=by
 unfold pieceL at hp
 obtain⟨k,_,rfl⟩:=List.mem_map.mp hp
 intro z hz
 exact run_in ok hz
noncomputable abbrev allPc (ps:List (Rat×Rat)):List Pc:=pieceL (edg (rimL ps)) ps
theorem allPc_ne (ps:List (Rat×Rat)):allPc ps≠[]:=by
 intro h
 have h1:(allPc ps).length=(edg (rimL ps)).length-1:=pieceL_len _ _
 rw[h] at h1
 have:=edg_two ps
 have h2:([]:List Pc).length=0:=rfl
 omega
noncomputable def spLpl:Sp:=λ vs H Q _=>∃ (x:Addr) (n:Nat) (ps:List (Rat×Rat)),vs = [.ref x]/\RuleAt H x n ps/\∀ v H',Same H H'->CdV H' (bestC n (allPc ps)) v->Q v H'
theorem sc_lpl:FnScope ["rule","found","a","b","run","at","side","far","total"] ["rule"] (defScope s_lpl):=⟨rfl,rfl,rfl,by decide +kernel,rfl,by decide +kernel,by decide +kernel⟩
theorem ok_lpl {f:Addr}{fd:FuncData} (F:Fun K "least_place" "least_place" s_lpl f fd) (T:Txt mg) {fpieces:Addr}{dpieces:FuncData} (Gpieces:FnOk P w K mg base CX0 6 fpieces dpieces ["rule"] spPieces) (bpieces:Binds K dpieces ["rule"] []) (kpieces:PySem.W.keepIn K (.ref fpieces)=true) (mpieces:mg "pieces" = some (.ref fpieces)) {fsor:Addr}{dsor:FuncData} (Gsor:FnOk P w K mg base CX0 6 fsor dsor ["n","run","p"] spSor) (bsor:Binds K dsor ["n","run","p"] []) (ksor:PySem.W.keepIn K (.ref fsor)=true) (msor:mg "sum_of_run" = some (.ref fsor)) {fund:Addr}{dund:FuncData} (Gund:FnOk P w K mg base CX0 6 fund dund ["one","other"] spUnd) (bund:Binds K dund ["one","other"] []) (kund:PySem.W.keepIn K (.ref fund)=true) (mund:mg "under" = some (.ref fund)):FnOk P w K mg base CX0 7 f fd ["rule"] spLpl:=by
 refine F.ok sc_lpl (λ vs H Q E h=>?_) (λ cdv A outer s H vs Q E hr h=>?_)
 ·obtain⟨x,n,ps,rfl,_⟩:=h
  rfl
 obtain⟨x,n,ps,rfl,hx,q⟩:=h
 refine⟨_,(pss_cons (ps_set (i:=1) sc_lpl.nd rfl (Or.inl rfl) pe_non)
  (pss_cons (ps_for PassesOwn.never rfl (pi_list (pe_call Gpieces hr rfl mpieces kpieces bpieces .nil pass0 (pa_cons (pv 0) pa_nil))) (pg_tup rfl (pgs_cons (pg_name (i:=2) sc_lpl.nd rfl (Or.inl rfl)) (pgs_cons (pg_name (i:=3) sc_lpl.nd rfl (Or.inl rfl)) (pgs_cons (pg_name (i:=4) sc_lpl.nd rfl (Or.inl rfl)) pgs_nil)))) (pss_one (ps_for PassesOwn.never rfl (pi_tup (pe_tup (pa_cons (pe_tup (pa_cons (pv 2) (pa_cons pe_str (pa_cons (pv 3) pa_nil)))) (pa_cons (pe_tup (pa_cons (pv 3) (pa_cons pe_str (pa_cons (pv 2) pa_nil)))) pa_nil)))) (pg_tup rfl (pgs_cons (pg_name (i:=5) sc_lpl.nd rfl (Or.inl rfl)) (pgs_cons (pg_name (i:=6) sc_lpl.nd rfl (Or.inl rfl)) (pgs_cons (pg_name (i:=7) sc_lpl.nd rfl (Or.inl rfl)) pgs_nil)))) (pss_cons (ps_set (i:=8) sc_lpl.nd rfl (Or.inl rfl) (pe_call Gsor hr rfl msor ksor bsor .nil pass0 (pa_cons (pe_ix ix_tup (pv 0) pe_int (λ _ _=>rfl)) (pa_cons (pv 4) (pa_cons (pv 5) pa_nil)))))
    (pss_one (ps_if (PW.pt (pw_or (pt_cmpR op_isN (pv 1) pe_non (nomark _)) (pw_or1 (pt_val (pe_call Gund hr rfl mund kund bund .nil pass0 (pa_cons (pv 8) (pa_cons (pe_ix ix_tup (pv 1) pe_int (λ _ _=>rfl)) pa_nil))))))) (pss_one (ps_set (i:=1) sc_lpl.nd rfl (Or.inl rfl) (pe_tup (pa_cons (pv 8) (pa_cons (pv 5) (pa_cons (pv 6) (pa_cons (pv 7) pa_nil))))))) pss_nil))))))
  (pss_one (ps_ret (pv 1))))),?_⟩
 have n12:=hx.ok.n12
 obtain⟨tt,zs,ex,et,row⟩:=hx.ob
 refine⟨_,rfl,x,n,ps,rfl,hx,λ l H1 ws _ s1 hl pcs=>?_⟩
 have lw:ws.length=(allPc ps).length:=pcs.len
 refine⟨l,rfl,⟨_,SqL.of hl⟩,?_⟩
 refine for_list (xs:=ws) (λ i σ H'=>Same H1 H'/\∃ v j1 j2 j3 j4 j5 j6 j7,σ = [some (.ref x),some v,j1,j2,j3,j4,j5,j6,j7]/\CdV H' (bestC n ((allPc ps).take i)) v) ⟨Same.refl H1,.non,none,none,none,none,none,none,none,rfl,rfl⟩ ?_ ?_ ?_
 ·rintro i σ H' hi ⟨sm,_⟩
  exact SqL.of (sm _ _ hl)
 ·rintro i y σ H2 hy ⟨sm,v,j1,j2,j3,j4,j5,j6,j7,rfl,cv⟩
  have hi:=(List.getElem?_eq_some_iff.mp hy).1
  have ep:=List.getElem?_eq_getElem (show i<(allPc ps).length by omega)
  have rin:=piece_run hx.ok (List.mem_of_getElem? ep)
  obtain⟨t,a,b,w,f1,f2,f3,f4,f5⟩:=(pcs.keep sm).get ep
  rw[hy] at f1
  cases f1
  have tk:(allPc ps).take (i+1)=(allPc ps).take i++[(allPc ps)[i]]:=by rw[List.take_add_one,ep];rfl
  rw[tk,bestC_snoc]
  generalize hpc:(allPc ps)[i]=pc at *
  generalize hbo:bestC n ((allPc ps).take i)=bo at *
  refine⟨t,_,rfl,SqT.of f2,rfl,.ref a,_,rfl,.ref b,_,rfl,w,[],rfl,rfl,?_⟩
  refine⟨_,rfl,_,rfl,(by show 3<=sizeLine;decide),λ u1 h1=>⟨_,rfl,_,rfl,(by show 3<=sizeLine;decide),λ u2 h2=>⟨(by show 2<=sizeLine;decide),λ u3 h3=>?_⟩⟩⟩
  have t1:=same_new h1 (.tup [V.ref a,V.str "above",V.ref b])
  have t2:=same_new h2 (.tup [V.ref b,V.str "below",V.ref a])
  have t3:=same_new h3 (.tup [V.ref u1,V.ref u2])
  have o1:=t3 _ _ (t2 _ _ (upd_same (H:=H2) (a:=u1) (o:=.tup [V.ref a,V.str "above",V.ref b])))
  have o2:=t3 _ _ (upd_same (H:=upd H2 u1 (.tup [V.ref a,V.str "above",V.ref b])) (a:=u2) (o:=.tup [V.ref b,V.str "below",V.ref a]))
  have o3:(upd (upd (upd H2 u1 (.tup [V.ref a,V.str "above",V.ref b])) u2 (.tup [V.ref b,V.str "below",V.ref a])) u3 (.tup [V.ref u1,V.ref u2])) u3=some (.tup [V.ref u1,V.ref u2]):=upd_same
  have t13:=(t1.trans t2).trans t3
  refine⟨u3,rfl,⟨_,SqT.of o3⟩,?_⟩
  generalize hH3:upd (upd (upd H2 u1 (.tup [V.ref a,V.str "above",V.ref b])) u2 (.tup [V.ref b,V.str "below",V.ref a])) u3 (.tup [V.ref u1,V.ref u2])=H3 at *
  refine for_tup (xs:=[V.ref u1,V.ref u2]) (λ j σ H'=>Same H3 H'/\∃ v k1 k2 k3 k4,σ = [some (.ref x),some v,some (.ref a),some (.ref b),some w,k1,k2,k3,k4]/\CdV H' (((cdsOf n pc).take j).foldl stepC bo) v) ⟨Same.refl H3,v,j4,j5,j6,j7,rfl,cv.keep t13⟩ ?_ ?_ ?_
  ·rintro j σ H' hj ⟨sm',_⟩
   exact SqT.of (sm' _ _ o3)
  ·rintro j z σ H4 hz ⟨sm',v',k1,k2,k3,k4,rfl,cv'⟩
   have s34:=t13.trans sm'
   obtain⟨uj,at_,far,c,rfl,e1,e2,e3,e4,e5⟩:∃ uj at_ far c,z=V.ref uj/\(cdsOf n pc)[j]? = some c/\H3 uj=some (.tup [.ref at_,.str (sideS c.2.2.1),.ref far])/\Shp H2 at_ c.2.1/\Shp H2 far c.2.2.2/\c.1=rsumO c.2.1 n pc.2.2:=by
    match j,hz with
    | 0,hz=>exact⟨u1,a,b,_,by simpa using hz.symm,rfl,o1,f3,f4,rfl⟩
    | 1,hz=>exact⟨u2,b,a,_,by simpa using hz.symm,rfl,o2,f4,f3,rfl⟩
   have tk':(cdsOf n pc).take (j+1)=(cdsOf n pc).take j++[c]:=by rw[List.take_add_one,e1];rfl
   rw[tk',List.foldl_append,List.foldl_cons,List.foldl_nil]
   generalize ((cdsOf n pc).take j).foldl stepC bo=o at *
   have sat:=e3.keep s34
   have sfar:=e4.keep s34
   refine⟨uj,_,rfl,SqT.of (sm' _ _ e2),rfl,.ref at_,_,rfl,.str (sideS c.2.2.1),_,rfl,.ref far,[],rfl,rfl,?_⟩
   have ex4:=(s1.trans (sm.trans s34)) _ _ ex
   refine⟨_,rfl,x,_,0,_,rfl,rfl,SqT.of ex4,at0,_,rfl,_,rfl,n,w,pc.2.2,at_,c.2.1,rfl,f5.keep s34,sat,n12,rin,λ to H5 s5 hto=>?_⟩
   have fto:=fr_rsumO sat n12 hto
   rw[<-e5] at fto
   have sm5:=sm'.trans s5
   cases o with
   | none =>
    have ev:v'=V.non:=cv'
    subst ev
    refine⟨_,rfl,rfl,_,rfl,iteT (iteT ?_)⟩
    refine⟨_,rfl,_,rfl,_,rfl,_,rfl,(by show 4<=sizeLine;decide),λ y hy=>?_⟩
    have s6:=same_new hy (.tup [V.ref to,V.ref at_,V.str (sideS c.2.2.1),V.ref far])
    exact⟨sm5.trans s6,_,_,_,_,_,rfl,y,rfl,to,at_,far,upd_same,fto.keep s6,(sat.keep s5).keep s6,(sfar.keep s5).keep s6⟩
   | some d =>
    obtain⟨yo,ev,⟨to',ao,fo,g1,g2,g3,g4⟩⟩:=cv'
    subst ev
    refine⟨_,rfl,rfl,_,rfl,iteF ?_⟩
    refine⟨_,rfl,_,rfl,yo,_,0,_,rfl,rfl,SqT.of (s5 _ _ g1),at0,to,to',_,_,rfl,fto,g2.keep s5,_,rfl,?_⟩
    by_cases cc:c.1<d.1
    ·rw[decide_eq_true cc]
     refine iteT ⟨_,rfl,_,rfl,_,rfl,_,rfl,(by show 4<=sizeLine;decide),λ y hy=>?_⟩
     have s6:=same_new hy (.tup [V.ref to,V.ref at_,V.str (sideS c.2.2.1),V.ref far])
     refine⟨sm5.trans s6,_,_,_,_,_,rfl,?_⟩
     show CdV _ (if c.1<d.1 then some c else some d) _
     rw[if_pos cc]
     exact⟨y,rfl,to,at_,far,upd_same,fto.keep s6,(sat.keep s5).keep s6,(sfar.keep s5).keep s6⟩
    ·rw[decide_eq_false cc]
     refine iteF ⟨sm5,_,_,_,_,_,rfl,?_⟩
     show CdV _ (if c.1<d.1 then some c else some d) _
     rw[if_neg cc]
     exact⟨yo,rfl,to',ao,fo,s5 _ _ g1,g2.keep s5,g3.keep s5,g4.keep s5⟩
  ·rintro σ H4 ⟨sm',v',k1,k2,k3,k4,rfl,cv'⟩
   exact⟨(sm.trans t13).trans sm',_,_,_,_,_,_,_,_,rfl,cv'⟩
 ·rintro σ H2 ⟨sm,v,j1,j2,j3,j4,j5,j6,j7,rfl,cv⟩
  rw[lw,List.take_length] at cv
  exact⟨_,rfl,q v H2 (s1.trans sm) cv⟩
noncomputable def spLeast:Sp:=λ vs H Q _=>∃ (x:Addr) (n:Nat) (ps:List (Rat×Rat)),vs = [.ref x]/\RuleAt H x n ps/\∀ c y t a H',bestC n (allPc ps)=some c->Same H H'->H' y=some (.tup [.ref t,.ref a,.str (sideS c.2.2.1)])->FrA H' t c.1->Shp H' a c.2.1->Q (.ref y) H'
theorem at2 {x y z:V}{xs:List V}:atI (x::y::z::xs) 2=some z:=atI_nat (xs:=x::y::z::xs) (j:=2) rfl
theorem sc_least:FnScope ["rule","place"] ["rule"] (defScope s_least):=⟨rfl,rfl,rfl,by decide +kernel,rfl,by decide +kernel,by decide +kernel⟩
theorem ok_least {f:Addr}{fd:FuncData} (F:Fun K "least" "least" s_least f fd) (T:Txt mg) {flpl:Addr}{dlpl:FuncData} (Glpl:FnOk P w K mg base CX0 7 flpl dlpl ["rule"] spLpl) (blpl:Binds K dlpl ["rule"] []) (klpl:PySem.W.keepIn K (.ref flpl)=true) (mlpl:mg "least_place" = some (.ref flpl)):FnOk P w K mg base CX0 8 f fd ["rule"] spLeast:=by
 refine F.ok sc_least (λ vs H Q E h=>?_) (λ cdv A outer s H vs Q E hr h=>?_)
 ·obtain⟨x,n,ps,rfl,_⟩:=h
  rfl
 obtain⟨x,n,ps,rfl,hx,q⟩:=h
 refine⟨_,(pss_cons (ps_set (i:=1) sc_least.nd rfl (Or.inl rfl) (pe_call Glpl hr rfl mlpl klpl blpl .nil pass0 (pa_cons (pv 0) pa_nil)))
  (pss_one (ps_ret (pe_tup (pa_cons (pe_ix ix_tup (pv 1) pe_int (λ _ _=>rfl)) (pa_cons (pe_ix ix_tup (pv 1) pe_int (λ _ _=>rfl)) (pa_cons (pe_ix ix_tup (pv 1) pe_int (λ _ _=>rfl)) pa_nil))))))),?_⟩
 obtain⟨c,hc⟩:=bestC_some (n:=n) (allPc_ne ps)
 refine⟨_,rfl,x,n,ps,rfl,hx,λ v H1 s1 cv=>?_⟩
 rw[hc] at cv
 obtain⟨y,ev,⟨t,a,f,g1,g2,g3,g4⟩⟩:=cv
 subst ev
 refine⟨_,rfl,y,_,0,_,rfl,rfl,SqT.of g1,at0,_,rfl,y,_,1,_,rfl,rfl,SqT.of g1,at1,_,rfl,y,_,2,_,rfl,rfl,SqT.of g1,at2,(by show 3<=sizeLine;decide),λ z hz=>?_⟩
 have s2:=same_new hz (.tup [V.ref t,V.ref a,V.str (sideS c.2.2.1)])
 exact q c z t a _ hc (s1.trans s2) upd_same (g2.keep s2) (g3.keep s2)
noncomputable def spWt:Sp:=λ vs H Q _=>∃ (k:Int) (l be:Addr) (a b c d:Int),vs = [.int k,.ref l,.ref be]/\H l=some (.tup [.int a,.int b])/\H be=some (.tup [.int c,.int d])/\Smk k/\Smk a/\Smk b/\∀ p,H p=none->Q (.ref p) (upd H p (.tup [.int (k*a+c),.int (k*b+d)]))
theorem sc_wterm:FnScope ["term","last","before"] ["term","last","before"] (defScope s_wterm):=⟨rfl,rfl,rfl,by decide +kernel,rfl,by decide +kernel,by decide +kernel⟩
theorem ok_wterm {f:Addr}{fd:FuncData} (F:Fun K "with_term" "with_term" s_wterm f fd) (T:Txt mg):FnOk P w K mg base CX0 1 f fd ["term","last","before"] spWt:=by
 refine F.ok sc_wterm (λ vs H Q E h=>?_) (λ cdv A outer s H vs Q E hr h=>?_)
 ·obtain⟨k,l,be,a,b,c,d,rfl,_⟩:=h
  rfl
 obtain⟨k,l,be,a,b,c,d,rfl,hl,hb,sk,sa,sb,q⟩:=h
 refine⟨_,(pss_one (ps_ret (pe_tup (pa_cons (pe_op op_add (pe_op op_mulK (pv 0) (pe_ix ix_tup (pv 1) pe_int (λ _ _=>rfl))) (pe_ix ix_tup (pv 2) pe_int (λ _ _=>rfl))) (pa_cons (pe_op op_add (pe_op op_mulK (pv 0) (pe_ix ix_tup (pv 1) pe_int (λ _ _=>rfl))) (pe_ix ix_tup (pv 2) pe_int (λ _ _=>rfl))) pa_nil))))),?_⟩
 exact⟨_,rfl,_,rfl,l,_,0,_,rfl,rfl,SqT.of hl,at0,_,_,rfl,rfl,⟨sk,sa⟩,_,rfl,be,_,0,_,rfl,rfl,SqT.of hb,at0,_,_,rfl,rfl,_,rfl,_,rfl,l,_,1,_,rfl,rfl,SqT.of hl,at1,_,_,rfl,rfl,⟨sk,sb⟩,_,rfl,be,_,1,_,rfl,rfl,SqT.of hb,at1,_,_,rfl,rfl,(by show 2<=sizeLine;decide),λ p hp=>q p hp⟩
noncomputable def muZ (σ:St) (G:Hp):Nat:=match σ with
 | some (.ref lo)::some (.ref hi)::_=>match G lo,G hi with
  | some (.tup [_,.int l1]),some (.tup [_,.int h1])=>(l1+h1).toNat
  | _,_=>0
 | _=>0
theorem muZ_is {lo hi:Addr}{x y:V}{l1 h1:Int}{σ:St}{G:Hp} (e1:G lo=some (.tup [x,.int l1])) (e2:G hi=some (.tup [y,.int h1])):muZ (some (.ref lo)::some (.ref hi) :: σ) G=(l1+h1).toNat:=by
 unfold muZ
 simp only[e1,e2]
theorem smZ {x Z:Int} (h0:0<=x) (h1:x<=Z) (hz:Sz 500 Z):Smk x:=by
 have:x.natAbs<=Z.natAbs:=by omega
 exact Nat.lt_of_le_of_lt this (Nat.lt_trans hz (Nat.pow_lt_pow_right (by decide) (by decide)))
theorem fdiv_pos {a b:Int} (h:0<b):a.fdiv b=a / b:=Int.fdiv_eq_ediv_of_nonneg a (Int.le_of_lt h)
theorem si_aZ {Z A B l0 l1 h0 h1 a b c d:Int} (s:SI Z A B l0 l1 h0 h1 a b c d):a<=A/\b<=B/\c<=A/\d<=B:=by
 have l1p:=s.l1p
 have h0p:=s.h0p
 have l0p:=s.l0p
 have h1p:=s.h1p
 have e1:a*1<=a*(l0+h0):=Int.mul_le_mul_of_nonneg_left (by omega) s.ap
 have e2:b*1<=b*(l0+h0):=Int.mul_le_mul_of_nonneg_left (by omega) s.bp
 have e3:c*1<=c*(l1+h1):=Int.mul_le_mul_of_nonneg_left (by omega) s.cp
 have e4:d*1<=d*(l1+h1):=Int.mul_le_mul_of_nonneg_left (by omega) s.dp
 have sA:=s.sA
 have sB:=s.sB
 have ap:=s.ap
 have bp:=s.bp
 have cp:=s.cp
 have dp:=s.dp
 refine⟨by omega,by omega,by omega,by omega⟩
noncomputable def spSim:Sp:=λ vs H Q _=>∃ (lo hi:Addr) (l h:Rat),vs = [.ref lo,.ref hi]/\H lo=some (.tup [.int l.num,.int (l.den:Int)])/\H hi=some (.tup [.int h.num,.int (h.den:Int)])/\0<=l/\l<h/\h<=1/\Sz 498 (l.den:Int)/\Sz 498 (h.den:Int) /\
 ∀ p H',Same H H'->H' p=some (.tup [.int (simR l h).num,.int ((simR l h).den:Int)])->Q (.ref p) H'
theorem sc_sim:FnScope ["low","high","before","last","whole","added","turned"] ["low","high"] (defScope s_sim):=⟨rfl,rfl,rfl,by decide +kernel,rfl,by decide +kernel,by decide +kernel⟩
theorem ok_sim {f:Addr}{fd:FuncData} (F:Fun K "simplest_between" "simplest_between" s_sim f fd) (T:Txt mg) {fwterm:Addr}{dwterm:FuncData} (Gwterm:FnOk P w K mg base CX0 1 fwterm dwterm ["term","last","before"] spWt) (bwterm:Binds K dwterm ["term","last","before"] []) (kwterm:PySem.W.keepIn K (.ref fwterm)=true) (mwterm:mg "with_term" = some (.ref fwterm)):FnOk P w K mg base CX0 2 f fd ["low","high"] spSim:=by
 refine F.ok sc_sim (λ vs H Q E h=>?_) (λ cdv A outer s H vs Q E hr h=>?_)
 ·obtain⟨lo,hi,l,h,rfl,_⟩:=h
  rfl
 obtain⟨lo,hi,l,h,rfl,hlo,hhi,l0,hlt,hle,zl,zh,q⟩:=h
 refine⟨_,(pss_cons (ps_set (i:=2) sc_sim.nd rfl (Or.inl rfl) (pe_tup (pa_cons pe_int (pa_cons pe_int pa_nil))))
  (pss_cons (ps_set (i:=3) sc_sim.nd rfl (Or.inl rfl) (pe_tup (pa_cons pe_int (pa_cons pe_int pa_nil))))
  (pss_cons (ps_set (i:=4) sc_sim.nd rfl (Or.inl rfl) (pe_op op_fdivK (pe_ix ix_tup (pv 0) pe_int (λ _ _=>rfl)) (pe_ix ix_tup (pv 0) pe_int (λ _ _=>rfl))))
  (pss_cons (ps_while PassesOwn.never (pt_cmpR op_ge (pe_op op_mulK (pe_op op_add (pv 4) pe_int) (pe_ix ix_tup (pv 1) pe_int (λ _ _=>rfl))) (pe_ix ix_tup (pv 1) pe_int (λ _ _=>rfl)) (nomark _)) (pss_cons (ps_set (i:=5) sc_sim.nd rfl (Or.inl rfl) (pe_call Gwterm hr rfl mwterm kwterm bwterm .nil pass0 (pa_cons (pv 4) (pa_cons (pv 3) (pa_cons (pv 2) pa_nil)))))
   (pss_cons (ps_set (i:=2) sc_sim.nd rfl (Or.inl rfl) (pv 3))
   (pss_cons (ps_set (i:=3) sc_sim.nd rfl (Or.inl rfl) (pv 5))
   (pss_cons (ps_set (i:=6) sc_sim.nd rfl (Or.inl rfl) (pe_tup (pa_cons (pe_ix ix_tup (pv 1) pe_int (λ _ _=>rfl)) (pa_cons (pe_op op_sub (pe_ix ix_tup (pv 1) pe_int (λ _ _=>rfl)) (pe_op op_mulK (pv 4) (pe_ix ix_tup (pv 1) pe_int (λ _ _=>rfl)))) pa_nil))))
   (pss_cons (ps_set (i:=1) sc_sim.nd rfl (Or.inl rfl) (pe_tup (pa_cons (pe_ix ix_tup (pv 0) pe_int (λ _ _=>rfl)) (pa_cons (pe_op op_sub (pe_ix ix_tup (pv 0) pe_int (λ _ _=>rfl)) (pe_op op_mulK (pv 4) (pe_ix ix_tup (pv 0) pe_int (λ _ _=>rfl)))) pa_nil))))
   (pss_cons (ps_set (i:=0) sc_sim.nd rfl (Or.inl rfl) (pv 6))
   (pss_one (ps_set (i:=4) sc_sim.nd rfl (Or.inl rfl) (pe_op op_fdivK (pe_ix ix_tup (pv 0) pe_int (λ _ _=>rfl)) (pe_ix ix_tup (pv 0) pe_int (λ _ _=>rfl))))))))))))
  (pss_one (ps_ret (pe_call Gwterm hr rfl mwterm kwterm bwterm .nil pass0 (pa_cons (pe_op op_add (pv 4) pe_int) (pa_cons (pv 3) (pa_cons (pv 2) pa_nil)))))))))),?_⟩
 have two:2<=sizeLine:=by decide
 have lp:=rden l
 have hp:=rden h
 have ln:0<=l.num:=(r_nonneg l).mpr l0
 have l1:l.num<=(l.den:Int):=(r_le1 l).mpr (by grind)
 have h1:h.num<=(h.den:Int):=(r_le1 h).mpr hle
 obtain⟨Z,hZ⟩:∃ Z:Int,(l.den:Int)+(h.den:Int)=Z:=⟨_,rfl⟩
 have szZ:Sz 500 Z:=by rw[<-hZ];exact (zl.add zh).mono (by decide)
 have si0:=sim_si (Z:=Z) l0 hlt (by omega) (by omega) (by omega) (by omega)
 rw[hZ] at si0
 have hA:l.num+h.num<=Z:=by omega
 obtain⟨so1,so2,_⟩:=sim_ok l0 hlt
 generalize hAA:l.num+h.num=AA at *
 refine⟨two,λ be hbe=>?_⟩
 have w1:=same_new hbe (.tup [V.int 0,V.int 1])
 have x1:upd H be (.tup [V.int 0,V.int 1]) be=some (.tup [V.int 0,V.int 1]):=upd_same
 generalize upd H be (.tup [V.int 0,V.int 1])=H1 at *
 refine⟨two,λ la hla=>?_⟩
 have w2:=same_new hla (.tup [V.int 1,V.int 0])
 have x2:upd H1 la (.tup [V.int 1,V.int 0]) la=some (.tup [V.int 1,V.int 0]):=upd_same
 generalize upd H1 la (.tup [V.int 1,V.int 0])=H2 at *
 have s2:=w1.trans w2
 refine⟨_,rfl,lo,_,0,_,rfl,rfl,SqT.of (s2 _ _ hlo),at0,_,rfl,lo,_,1,_,rfl,rfl,SqT.of (s2 _ _ hlo),at1,_,_,rfl,rfl,⟨Int.ne_of_gt lp,smZ (Int.le_of_lt lp) (by omega) szZ⟩,?_⟩
 dsimp only
 rw[fdiv_pos lp]
 refine while_by (λ σ G=>Same H G/\∃ (lo hi be la:Addr) (l0 l1 h0 h1 a b c d:Int) (v5 v6:Option V) (k:Nat),σ = [some (.ref lo),some (.ref hi),some (.ref be),some (.ref la),some (.int (l0 / l1)),v5,v6]/\G lo=some (.tup [.int l0,.int l1])/\G hi=some (.tup [.int h0,.int h1])/\G be=some (.tup [.int c,.int d])/\G la=some (.tup [.int a,.int b])/\SI Z AA Z l0 l1 h0 h1 a b c d/\(l1+h1).toNat<k/\simF k l0 l1 h0 h1 a b c d=simP l h) muZ
  ⟨s2,lo,hi,be,la,_,_,_,_,1,0,0,1,none,none,((l.den:Int)+(h.den:Int)+1).toNat,rfl,s2 _ _ hlo,s2 _ _ hhi,w2 _ _ x1,x2,si0,by omega,rfl⟩ ?_ ?_
 ·rintro σ G ⟨sm,lo',hi',be',la',p0,p1,q0,q1,a,b,c,d,v5,v6,k,rfl,g1,g2,g3,g4,si,hk,ek⟩
  obtain⟨w0,wa,wb,wc⟩:=fl_ok si.l0p si.l1p
  obtain⟨aA,bB,cA,dB⟩:=si_aZ si
  have z1:=si.z1
  have z2:=si.z2
  have z3:=si.z3
  have z4:=si.z4
  have l1p:=si.l1p
  have h1p:=si.h1p
  have szw:Smk (p0 / p1):=smZ w0 (by omega) szZ
  have szw1:Smk (p0 / p1+1):=smZ (Z:=Z+1) (by omega) (by omega) (by rw[<-hZ];exact ((zl.add zh).add (show Sz 499 (1:Int) from Nat.one_lt_two_pow (by decide))))
  refine⟨_,rfl,_,_,rfl,rfl,_,rfl,hi',_,1,_,rfl,rfl,SqT.of g2,at1,_,_,rfl,rfl,⟨szw1,smZ h1p z4 szZ⟩,_,rfl,hi',_,0,_,rfl,rfl,SqT.of g2,at0,_,_,rfl,rfl,_,rfl,?_⟩
  obtain⟨k',rfl⟩:∃ k',k=k'+1:=⟨k-1,by omega⟩
  refine ite2 (λ cc=>?_) (λ cc=>?_)
  ·have cc':q0<=(p0 / p1+1)*q1:=of_decide_eq_true cc
   obtain⟨si',mm⟩:=si.step cc'
   have pl:=si.low
   have ph:=si'.h1p
   unfold simF at ek
   rw[if_pos cc'] at ek
   refine⟨_,rfl,_,rfl,_,rfl,p0 / p1,la',be',a,b,c,d,rfl,g4,g3,szw,smZ si.ap (by omega) szZ,smZ si.bp (by omega) szZ,λ ad had=>?_⟩
   have u1:=same_new had (.tup [V.int (p0 / p1*a+c),V.int (p0 / p1*b+d)])
   have y1:upd G ad (.tup [V.int (p0 / p1*a+c),V.int (p0 / p1*b+d)]) ad=some (.tup [V.int (p0 / p1*a+c),V.int (p0 / p1*b+d)]):=upd_same
   generalize upd G ad (.tup [V.int (p0 / p1*a+c),V.int (p0 / p1*b+d)])=G1 at *
   have g1':=u1 _ _ g1
   have g2':=u1 _ _ g2
   refine⟨_,rfl,_,rfl,_,rfl,hi',_,1,_,rfl,rfl,SqT.of g2',at1,_,rfl,hi',_,0,_,rfl,rfl,SqT.of g2',at0,_,rfl,_,rfl,hi',_,1,_,rfl,rfl,SqT.of g2',at1,_,_,rfl,rfl,⟨szw,smZ h1p z4 szZ⟩,_,_,rfl,rfl,two,λ tu htu=>?_⟩
   have u2:=same_new htu (.tup [V.int q1,V.int (q0-p0 / p1*q1)])
   have y2:upd G1 tu (.tup [V.int q1,V.int (q0-p0 / p1*q1)]) tu=some (.tup [V.int q1,V.int (q0-p0 / p1*q1)]):=upd_same
   generalize upd G1 tu (.tup [V.int q1,V.int (q0-p0 / p1*q1)])=G2 at *
   have g1'':=u2 _ _ g1'
   refine⟨_,rfl,lo',_,1,_,rfl,rfl,SqT.of g1'',at1,_,rfl,lo',_,0,_,rfl,rfl,SqT.of g1'',at0,_,rfl,_,rfl,lo',_,1,_,rfl,rfl,SqT.of g1'',at1,_,_,rfl,rfl,⟨szw,smZ (Int.le_of_lt l1p) z2 szZ⟩,_,_,rfl,rfl,two,λ nh hnh=>?_⟩
   have u3:=same_new hnh (.tup [V.int p1,V.int (p0-p0 / p1*p1)])
   have y3:upd G2 nh (.tup [V.int p1,V.int (p0-p0 / p1*p1)]) nh=some (.tup [V.int p1,V.int (p0-p0 / p1*p1)]):=upd_same
   generalize upd G2 nh (.tup [V.int p1,V.int (p0-p0 / p1*p1)])=G3 at *
   have y2':=u3 _ _ y2
   refine⟨_,rfl,_,rfl,tu,_,0,_,rfl,rfl,SqT.of y2',at0,_,rfl,tu,_,1,_,rfl,rfl,SqT.of y2',at1,_,_,rfl,rfl,⟨Int.ne_of_gt pl,smZ (Int.le_of_lt pl) (by have:=si'.z2;omega) szZ⟩,?_⟩
   have u13:=u1.trans (u2.trans u3)
   refine⟨⟨sm.trans u13,tu,nh,la',ad,q1,q0-p0 / p1*q1,p1,p0-p0 / p1*p1,p0 / p1*a+c,p0 / p1*b+d,a,b,some (V.ref ad),some (V.ref tu),k',?_,y2',y3,u13 _ _ g4,(u2.trans u3) _ _ y1,si',by omega,ek⟩,?_⟩
   ·rw[<-fdiv_pos pl]<;>rfl
   ·rw[muZ_is g1 g2]
    show muZ [some (.ref tu),some (.ref nh),some (.ref la'),some (.ref ad),some (.int (q1.fdiv (q0-p0 / p1*q1))),some (.ref ad),some (.ref tu)] G3<_
    rw[muZ_is y2' y3]
    omega
  ·have cc':¬ q0<=(p0 / p1+1)*q1:=λ z=>cc (decide_eq_true z)
   unfold simF at ek
   rw[if_neg cc'] at ek
   refine⟨_,rfl,_,_,rfl,rfl,_,rfl,_,rfl,p0 / p1+1,la',be',a,b,c,d,rfl,g4,g3,szw1,smZ si.ap (by omega) szZ,smZ si.bp (by omega) szZ,λ ad had=>?_⟩
   refine q ad _ (sm.trans (same_new had _)) ?_
   rw[upd_same,so1,so2,<-ek]
 ·intro σ H Q Q' hq h
  obtain⟨v1,e1,x1,y1,f1,f2,v2,e2,p1,xs1,i1,u1,f3,f4,sq1,t1,x2,y2,f5,f6,cnd,v3,e3,p2,xs2,i2,u2,f7,f8,sq2,t2,x3,y3,f9,f10,k,ek,h2⟩:=h
  exact⟨v1,e1,x1,y1,f1,f2,v2,e2,p1,xs1,i1,u1,f3,f4,sq1,t1,x2,y2,f5,f6,cnd,v3,e3,p2,xs2,i2,u2,f7,f8,sq2,t2,x3,y3,f9,f10,k,ek,hq _ _ h2⟩
theorem fr_abs {r:Rat}{B m:Nat} (h:Ov B r) (hB:0<B) (hm:B<2^m) (h0:-1<=r) (h1:r<=1):Sz m r.num/\Sz m (r.den:Int):=by
 by_cases c:0<=r
 ·have z:=RSz.of h hB hm c h1
  exact⟨z.t,z.b⟩
 ·have hn:Ov B (-r):=by
   obtain⟨k,e⟩:=h
   exact⟨-k,by push_cast;rw[<-e];grind⟩
  have z:=RSz.of hn hB hm (by grind) (by grind)
  have e1:(-r).num = -r.num:=Rat.neg_num r
  have e2:(-r).den=r.den:=Rat.neg_den r
  have z1:=z.t
  have z2:=z.b
  rw[e1] at z1
  rw[e2] at z2
  refine⟨?_,z2⟩
  unfold Sz at z1 ⊢
  omega
theorem den_nat {p:Rat}{m:Nat} (z:Sz m (p.den:Int)):0<p.den/\p.den<2^m:=by
 have:=p.den_nz
 unfold Sz at z
 omega
theorem half_ov {p f:Rat} (h:Nat):Ov (p.den*f.den) (f-p)/\Ov (p.den*f.den*2^h) ((f-p) / (2:Rat)^h)/\Ov (p.den*f.den*2^h) (rch p f h):=by
 have a1:Ov (p.den*f.den) p:=(Ov.self p).up (Nat.dvd_mul_right ..)
 have a2:Ov (p.den*f.den) f:=(Ov.self f).up (Nat.dvd_mul_left ..)
 have a3:=a2.sub a1
 have t0:=(two_pow h).1
 have a4:Ov (p.den*f.den*2^h) ((f-p) / (2:Rat)^h):=by
  obtain⟨k,e⟩:=a3
  refine⟨k,?_⟩
  rw[<-e]
  push_cast
  have:(f-p) / (2:Rat)^h*(2:Rat)^h=f-p:=by grind
  rw[<-this]
  grind
 exact⟨a3,a4,(a1.up (Nat.dvd_mul_right ..)).add a4⟩
theorem pow2_lt {x y h:Nat} (hx:x<2^20) (hy:y<2^20) (h1:h<=255):x*y*2^h<2^295:=by
 have e1:x*y<2^20*2^20:=Nat.mul_lt_mul'' hx hy
 have e2:(2:Nat)^h<=2^255:=Nat.pow_le_pow_right (by decide) h1
 calc x*y*2^h<=x*y*2^255:=Nat.mul_le_mul_left _ e2
  _<2^20*2^20*2^255:=Nat.mul_lt_mul_of_pos_right e1 (Nat.two_pow_pos _)
  _=2^295:=by rw[<-Nat.pow_add,<-Nat.pow_add]
theorem sz2:Sz 2 (2:Int):=by unfold Sz;decide
noncomputable def spShb:Sp:=λ vs H Q _=>∃ (pa fa:Addr) (p f:Rat) (h:Int),vs = [.ref pa,.ref fa,.int h]/\Shp H pa p/\Shp H fa f/\p≠f/\Sz 20 (p.den:Int)/\Sz 20 (f.den:Int)/\0<=h/\h<=255/\∀ a H',Same H H'->Shp H' a (besR p f h.toNat)->Q (.ref a) H'
theorem sc_shb:FnScope ["at","far","halvings","apart","reached"] ["at","far","halvings"] (defScope s_shb):=⟨rfl,rfl,rfl,by decide +kernel,rfl,by decide +kernel,by decide +kernel⟩
theorem ok_shb {C:CA}{f:Addr}{fd:FuncData} (F:Fun K "share_beside" "share_beside" s_shb f fd) (T:Txt mg) {fminus:Addr}{dminus:FuncData} (Gminus:FnOk P w K mg base CX0 4 fminus dminus ["one","other"] spMinus) (bminus:Binds K dminus ["one","other"] []) (kminus:PySem.W.keepIn K (.ref fminus)=true) (mminus:mg "minus" = some (.ref fminus)) {fplus:Addr}{dplus:FuncData} (Gplus:FnOk P w K mg base CX0 4 fplus dplus ["one","other"] spPlus) (bplus:Binds K dplus ["one","other"] []) (kplus:PySem.W.keepIn K (.ref fplus)=true) (mplus:mg "plus" = some (.ref fplus)) {ffrac:Addr}{dfrac:FuncData} (Gfrac:FnOk P w K mg base (CXX P w) 4 ffrac dfrac ["top","bottom"] (spFrac C)) (bfrac:Binds K dfrac ["top","bottom"] []) (kfrac:PySem.W.keepIn K (.ref ffrac)=true) (mfrac:mg "fraction" = some (.ref ffrac)) {fpow:Addr}{dpow:FuncData} (Gpow:FnOk P w K mg base CX0 4 fpow dpow ["base","count"] spPow) (bpow:Binds K dpow ["base","count"] []) (kpow:PySem.W.keepIn K (.ref fpow)=true) (mpow:mg "power" = some (.ref fpow)) {fund:Addr}{dund:FuncData} (Gund:FnOk P w K mg base CX0 4 fund dund ["one","other"] spUnd) (bund:Binds K dund ["one","other"] []) (kund:PySem.W.keepIn K (.ref fund)=true) (mund:mg "under" = some (.ref fund)) {fsim:Addr}{dsim:FuncData} (Gsim:FnOk P w K mg base CX0 4 fsim dsim ["low","high"] spSim) (bsim:Binds K dsim ["low","high"] []) (ksim:PySem.W.keepIn K (.ref fsim)=true) (msim:mg "simplest_between" = some (.ref fsim)):FnOk P w K mg base CX0 5 f fd ["at","far","halvings"] spShb:=by
 refine F.ok sc_shb (λ vs H Q E h=>?_) (λ cdv A outer s H vs Q E hr h=>?_)
 ·obtain⟨pa,fa,p,f,h,rfl,_⟩:=h
  rfl
 obtain⟨pa,fa,p,f,h,rfl,sp,sf,hpf,zp,zf,h0,h1,q⟩:=h
 refine⟨_,(pss_cons (ps_set (i:=3) sc_shb.nd rfl (Or.inl rfl) (pe_call Gminus hr rfl mminus kminus bminus .nil pass0 (pa_cons (pv 1) (pa_cons (pv 0) pa_nil))))
  (pss_cons (ps_set (i:=4) sc_shb.nd rfl (Or.inl rfl) (pe_call Gplus hr rfl mplus kplus bplus .nil pass0 (pa_cons (pv 0) (pa_cons (pe_call Gfrac hr rfl mfrac kfrac bfrac .nil passN (pa_cons (pe_ix ix_tup (pv 3) pe_int (λ _ _=>rfl)) (pa_cons (pe_op op_mulK (pe_ix ix_tup (pv 3) pe_int (λ _ _=>rfl)) (pe_call Gpow hr rfl mpow kpow bpow .nil pass0 (pa_cons pe_int (pa_cons (pv 2) pa_nil)))) pa_nil))) pa_nil))))
  (pss_cons (ps_if (pt_val (pe_call Gund hr rfl mund kund bund .nil pass0 (pa_cons (pv 0) (pa_cons (pv 4) pa_nil)))) (pss_one (ps_ret (pe_call Gsim hr rfl msim ksim bsim .nil pass0 (pa_cons (pv 0) (pa_cons (pv 4) pa_nil))))) pss_nil)
  (pss_one (ps_ret (pe_call Gsim hr rfl msim ksim bsim .nil pass0 (pa_cons (pv 4) (pa_cons (pv 0) pa_nil)))))))),?_⟩
 obtain⟨dp,lp⟩:=den_nat zp
 obtain⟨df,lf⟩:=den_nat zf
 have B0:0<p.den*f.den*2^h.toNat:=Nat.mul_pos (Nat.mul_pos dp df) (Nat.two_pow_pos _)
 have BL:=pow2_lt lp lf (show h.toNat<=255 by omega)
 have B1:p.den*f.den<2^295:=Nat.lt_of_le_of_lt (Nat.le_mul_of_pos_right _ (Nat.two_pow_pos h.toNat)) BL
 obtain⟨o1,o2,o3⟩:=half_ov (p:=p) (f:=f) h.toNat
 have plo:=sp.lo
 have phi:=sp.hi
 have flo:=sf.lo
 have fhi:=sf.hi
 obtain⟨i1,i2⟩:=rch_in (p:=p) (f:=f) h.toNat
 have rcu:0<=rch p f h.toNat/\rch p f h.toNat<=1:=by
  by_cases c:p<f
  ·have:=i1 c;grind
  ·have:=i2 (by grind);grind
 have z1:=fr_abs o1 (Nat.mul_pos dp df) B1 (by grind) (by grind)
 have hal:-1<=(f-p) / (2:Rat)^h.toNat/\(f-p) / (2:Rat)^h.toNat<=1:=by
  have:rch p f h.toNat=p+(f-p) / (2:Rat)^h.toNat:=rfl
  grind
 have z2:=fr_abs o2 B0 BL hal.1 hal.2
 have z3:=fr_abs o3 B0 BL (by grind) rcu.2
 refine⟨_,rfl,_,rfl,fa,pa,f,p,rfl,sf.fr,sp.fr,λ ap H1 s1 hap=>?_⟩
 have e2:(2:Int)^h.toNat=((2^h.toNat:Nat):Int):=by push_cast;rfl
 have sz2h:Sz 512 ((2:Int)^h.toNat):=by
  have:=sz2.powN h.toNat
  exact this.mono (by omega)
 have hb:(0:Int)<((f-p).den:Int)*(2:Int)^h.toNat:=Int.mul_pos (rden _) (Int.pow_pos (by decide))
 refine⟨_,rfl,_,rfl,ap,_,0,_,rfl,rfl,SqT.of hap,at0,_,rfl,ap,_,1,_,rfl,rfl,SqT.of hap,at1,_,rfl,2,h,2,rfl,sz2,h0,by omega,by decide,by omega,?_⟩
 refine⟨_,_,rfl,rfl,⟨z1.2.smk (by decide),sz2h.smk (by decide)⟩,?_⟩
 have er:(f-p) / (2:Rat)^h.toNat*(((((f-p).den:Int)*(2:Int)^h.toNat:Int)):Rat)=(((f-p).num:Int):Rat):=by
  have s:=rsplit (f-p)
  have t0:=(two_pow h.toNat).1
  have:(f-p) / (2:Rat)^h.toNat*(2:Rat)^h.toNat=f-p:=by grind
  push_cast
  rw[<-s]
  generalize (f-p) / (2:Rat)^h.toNat=y at *
  grind
 refine⟨_,_,.int _,.int _,rfl,rfl,rfl,λ t0 b0 e=>?_,λ e=>?_⟩
 rotate_left
 ·rw[frOk_yes (Int.ne_of_gt hb)] at e;cases e
 obtain⟨y1,y2,_⟩:=frOk_shape e
 cases y1
 cases y2
 refine⟨(z1.2.mul sz2h).smk (by decide),λ hf hhf0=>?_⟩
 have s2:=same_new hhf0 (.tup [V.int (frT (f-p).num (((f-p).den:Int)*2^h.toNat)),V.int (frB (f-p).num (((f-p).den:Int)*2^h.toNat))])
 have hhf:upd H1 hf (.tup [V.int (frT (f-p).num (((f-p).den:Int)*2^h.toNat)),V.int (frB (f-p).num (((f-p).den:Int)*2^h.toNat))]) hf=some (.tup [.int ((f-p) / (2:Rat)^h.toNat).num,.int (((f-p) / (2:Rat)^h.toNat).den:Int)]):=by
  obtain⟨f1,f2⟩:=fr_rat (Int.ne_of_gt hb) er
  rw[upd_same,f1,f2]
 generalize upd H1 hf (.tup [V.int (frT (f-p).num (((f-p).den:Int)*2^h.toNat)),V.int (frB (f-p).num (((f-p).den:Int)*2^h.toNat))])=H2 at *
 refine⟨pa,hf,p,_,rfl,(sp.keep (s1.trans s2)).fr,⟨hhf,z2.1.mono (by decide),z2.2.mono (by decide)⟩,λ rc H3 s3 hrc=>?_⟩
 have s13:=s1.trans (s2.trans s3)
 have hrc':H3 rc=some (.tup [.int (rch p f h.toNat).num,.int ((rch p f h.toNat).den:Int)]):=hrc
 have sp3:=sp.keep s13
 refine⟨_,rfl,_,rfl,pa,rc,p,rch p f h.toNat,rfl,sp3.fr,⟨hrc',z3.1.mono (by decide),z3.2.mono (by decide)⟩,_,rfl,?_⟩
 have fin:∀ a H',Same H3 H'->H' a=some (.tup [.int (besR p f h.toNat).num,.int ((besR p f h.toNat).den:Int)])->Q (.ref a) H':=λ a H' sm e=>by
  refine q a H' (s13.trans sm) ⟨e,?_,?_,?_⟩
  ·have b:=bes_in plo flo h.toNat
   by_cases c:p<f
   ·have:=b.1 c;grind
   ·have:=b.2 (by grind);grind
  ·have b:=bes_in plo flo h.toNat
   by_cases c:p<f
   ·have:=b.1 c;grind
   ·have:=b.2 (by grind);grind
  ·have b:=bes_den plo flo hpf h.toNat
   have zz:Sz 296 ((p.den:Int)+((rch p f h.toNat).den:Int)):=(zp.mono (by decide)).add z3.2
   have:=rden (besR p f h.toNat)
   unfold Sz at zz ⊢
   exact Nat.lt_of_lt_of_le (Nat.lt_of_le_of_lt (by omega) zz) (Nat.pow_le_pow_right (by decide) (by decide))
 by_cases c:p<rch p f h.toNat
 ·rw[decide_eq_true c]
  refine iteT ⟨_,rfl,_,rfl,pa,rc,p,rch p f h.toNat,rfl,sp3.ob,hrc',plo,c,rcu.2,zp.mono (by decide),z3.2.mono (by decide),λ a H' sm e=>?_⟩
  have eb:besR p f h.toNat=simR p (rch p f h.toNat):=if_pos c
  exact fin a H' sm (by rw[eb];exact e)
 ·rw[decide_eq_false c]
  have c':rch p f h.toNat<p:=by
   by_cases d:p<f
   ·exact absurd (i1 d).1 c
   ·exact (i2 (by grind)).2
  refine iteF ⟨_,rfl,_,rfl,rc,pa,rch p f h.toNat,p,rfl,hrc',sp3.ob,rcu.1,c',phi,z3.2.mono (by decide),zp.mono (by decide),λ a H' sm e=>?_⟩
  have eb:besR p f h.toNat=simR (rch p f h.toNat) p:=if_neg c
  exact fin a H' sm (by rw[eb];exact e)
noncomputable def spLks:Sp:=λ vs H Q _=>∃ (x sa a:Addr) (n:Nat) (ps:List (Rat×Rat)) (s p:Rat),vs = [.ref x,.ref sa,.ref a]/\RuleAt H x n ps/\FrA H sa s/\Shp H a p/\∀ H',Same H H'->Q (.bl (decide (rsumO p n (runOf ps p p)<s))) H'
theorem sc_lks:FnScope ["rule","share","p"] ["rule","share","p"] (defScope s_lks):=⟨rfl,rfl,rfl,by decide +kernel,rfl,by decide +kernel,by decide +kernel⟩
theorem ok_lks {f:Addr}{fd:FuncData} (F:Fun K "lacks" "lacks" s_lks f fd) (T:Txt mg) {fcov:Addr}{dcov:FuncData} (Gcov:FnOk P w K mg base CX0 6 fcov dcov ["rule","p"] spCov) (bcov:Binds K dcov ["rule","p"] []) (kcov:PySem.W.keepIn K (.ref fcov)=true) (mcov:mg "cover" = some (.ref fcov)) {fund:Addr}{dund:FuncData} (Gund:FnOk P w K mg base CX0 6 fund dund ["one","other"] spUnd) (bund:Binds K dund ["one","other"] []) (kund:PySem.W.keepIn K (.ref fund)=true) (mund:mg "under" = some (.ref fund)):FnOk P w K mg base CX0 7 f fd ["rule","share","p"] spLks:=by
 refine F.ok sc_lks (λ vs H Q E h=>?_) (λ cdv A outer s H vs Q E hr h=>?_)
 ·obtain⟨x,sa,a,n,ps,s,p,rfl,_⟩:=h
  rfl
 obtain⟨x,sa,a,n,ps,sh,p,rfl,hx,fs,sp,q⟩:=h
 refine⟨_,(pss_one (ps_ret (pe_call Gund hr rfl mund kund bund .nil pass0 (pa_cons (pe_call Gcov hr rfl mcov kcov bcov .nil pass0 (pa_cons (pv 0) (pa_cons (pv 2) pa_nil))) (pa_cons (pv 1) pa_nil))))),?_⟩
 refine⟨_,rfl,_,rfl,x,n,ps,a,p,rfl,hx,sp,λ f H1 s1 hf=>?_⟩
 exact⟨_,rfl,f,sa,_,_,rfl,fr_rsumO sp hx.ok.n12 hf,fs.keep s1,q _ s1⟩
noncomputable def fstL (E:Nat->Bool):Nat->Int->Int->Int×Int
 | 0,tf,en=>(tf,en)
 | k+1,tf,en=>if E en.toNat=true then (tf,en) else fstL E k en (2*en+1)
noncomputable def bsrL (E:Nat->Bool):Nat->Int->Int->Int
 | 0,_,en=>en
 | k+1,tf,en=>if 1<en-tf then (if E ((tf+en) / 2).toNat=true then bsrL E k tf ((tf+en) / 2) else bsrL E k ((tf+en) / 2) en) else en
noncomputable def lackH (E:Nat->Bool):Nat:=(bsrL E 300 (fstL E 10 (-1) 0).1 (fstL E 10 (-1) 0).2).toNat
noncomputable def muL (σ:St):Nat:=match σ with
 | _::_::_::_::_::some (.int y)::_=>(300-y).toNat
 | _=>0
noncomputable def muM (σ:St):Nat:=match σ with
 | _::_::_::_::some (.int x)::some (.int y)::_=>(y-x).toNat
 | _=>0
noncomputable def covE (n:Nat) (ps:List (Rat×Rat)) (s p f:Rat) (h:Nat):Bool:=decide (rsumO (besR p f h) n (runOf ps (besR p f h) (besR p f h))<s)
noncomputable def spLack:Sp:=λ vs H Q _=>∃ (x sa pa fa:Addr) (n:Nat) (ps:List (Rat×Rat)) (s p f:Rat),vs = [.ref x,.ref sa,.ref pa,.ref fa]/\RuleAt H x n ps/\FrA H sa s/\Shp H pa p/\Shp H fa f/\p≠f/\Sz 20 (p.den:Int)/\Sz 20 (f.den:Int)/\covE n ps s p f 255=true /\
 ∀ a H',Same H H'->covE n ps s p f (lackH (covE n ps s p f))=true->Shp H' a (besR p f (lackH (covE n ps s p f)))->Q (.ref a) H'
theorem two_i {i:Nat} (h:i<=8):(2:Int)^i-1<=255/\0<=(2:Int)^i-1/\(i=8->(2:Int)^i-1=255):=by
 match i,h with
 | 0,_=>decide
 | 1,_=>decide
 | 2,_=>decide
 | 3,_=>decide
 | 4,_=>decide
 | 5,_=>decide
 | 6,_=>decide
 | 7,_=>decide
 | 8,_=>decide
theorem sc_lack:FnScope ["rule","share","at","far","too_few","enough","middle"] ["rule","share","at","far"] (defScope s_lack):=⟨rfl,rfl,rfl,by decide +kernel,rfl,by decide +kernel,by decide +kernel⟩
theorem ok_lack {f:Addr}{fd:FuncData} (F:Fun K "share_lacking" "share_lacking" s_lack f fd) (T:Txt mg) {flks:Addr}{dlks:FuncData} (Glks:FnOk P w K mg base CX0 7 flks dlks ["rule","share","p"] spLks) (blks:Binds K dlks ["rule","share","p"] []) (klks:PySem.W.keepIn K (.ref flks)=true) (mlks:mg "lacks" = some (.ref flks)) {fshb:Addr}{dshb:FuncData} (Gshb:FnOk P w K mg base CX0 7 fshb dshb ["at","far","halvings"] spShb) (bshb:Binds K dshb ["at","far","halvings"] []) (kshb:PySem.W.keepIn K (.ref fshb)=true) (mshb:mg "share_beside" = some (.ref fshb)):FnOk P w K mg base CX0 8 f fd ["rule","share","at","far"] spLack:=by
 refine F.ok sc_lack (λ vs H Q E h=>?_) (λ cdv A outer s H vs Q E hr h=>?_)
 ·obtain⟨x,sa,pa,fa,n,ps,s,p,f,rfl,_⟩:=h
  rfl
 obtain⟨x,sa,pa,fa,n,ps,sh,p,f,rfl,hx,fs,sp,sf,hpf,zp,zf,h255,q⟩:=h
 refine⟨_,(pss_cons (ps_set (i:=4) sc_lack.nd rfl (Or.inl rfl) (pe_un un_neg pe_int))
  (pss_cons (ps_set (i:=5) sc_lack.nd rfl (Or.inl rfl) pe_int)
  (pss_cons (ps_while PassesOwn.never (pt_not (pt_val (pe_call Glks hr rfl mlks klks blks .nil pass0 (pa_cons (pv 0) (pa_cons (pv 1) (pa_cons (pe_call Gshb hr rfl mshb kshb bshb .nil pass0 (pa_cons (pv 2) (pa_cons (pv 3) (pa_cons (pv 5) pa_nil)))) pa_nil)))))) (pss_cons (ps_set (i:=4) sc_lack.nd rfl (Or.inl rfl) (pv 5))
   (pss_one (ps_set (i:=5) sc_lack.nd rfl (Or.inl rfl) (pe_op op_add (pe_op op_mul pe_int (pv 5)) pe_int)))))
  (pss_cons (ps_while PassesOwn.never (pt_cmpR op_gt (pe_op op_sub (pv 5) (pv 4)) pe_int (nomark _)) (pss_cons (ps_set (i:=6) sc_lack.nd rfl (Or.inl rfl) (pe_op op_fdiv (pe_op op_add (pv 4) (pv 5)) pe_int))
   (pss_one (ps_if (pt_val (pe_call Glks hr rfl mlks klks blks .nil pass0 (pa_cons (pv 0) (pa_cons (pv 1) (pa_cons (pe_call Gshb hr rfl mshb kshb bshb .nil pass0 (pa_cons (pv 2) (pa_cons (pv 3) (pa_cons (pv 6) pa_nil)))) pa_nil))))) (pss_one (ps_set (i:=5) sc_lack.nd rfl (Or.inl rfl) (pv 6))) (pss_one (ps_set (i:=4) sc_lack.nd rfl (Or.inl rfl) (pv 6)))))))
  (pss_one (ps_ret (pe_call Gshb hr rfl mshb kshb bshb .nil pass0 (pa_cons (pv 2) (pa_cons (pv 3) (pa_cons (pv 5) pa_nil)))))))))),?_⟩
 have one:∀ (h:Int),covE n ps sh p f h.toNat=decide (rsumO (besR p f h.toNat) n (runOf ps (besR p f h.toNat) (besR p f h.toNat))<sh):=λ h=>rfl
 generalize hE:covE n ps sh p f=Ec at *
 refine⟨_,rfl,?_⟩
 dsimp only
 refine seq_by (λ σ G=>G=H/\σ = [some (.ref x),some (.ref sa),some (.ref pa),some (.ref fa),some (.int (-1)),some (.int 0),none]) (λ M hM=>hM _ _ ⟨rfl,rfl⟩) ?_
 rintro σ G ⟨rfl,rfl⟩
 refine seq_by (λ σ G'=>Same G G'/\∃ (tf en:Int) (v6:Option V),σ = [some (.ref x),some (.ref sa),some (.ref pa),some (.ref fa),some (.int tf),some (.int en),v6]/\-1<=tf/\tf<en/\en<=255/\Ec en.toNat=true/\fstL Ec 10 (-1) 0=(tf,en)) ?_ ?_
 ·intro M hM
  refine while_by (λ σ G'=>Same G G'/\∃ (tf en:Int) (v6:Option V) (i:Nat),σ = [some (.ref x),some (.ref sa),some (.ref pa),some (.ref fa),some (.int tf),some (.int en),v6]/\-1<=tf/\tf<en/\i<=8/\en=2^i-1/\fstL Ec (10-i) tf en=fstL Ec 10 (-1) 0) (λ σ _=>muL σ) ⟨Same.refl G,-1,0,none,0,rfl,by decide,by decide,by decide,by decide,rfl⟩ ?_ ?_
  ·rintro σ G1 ⟨sm,tf,en,v6,i,rfl,t0,t1,i8,een,ef⟩
   obtain⟨b1,b2,b3⟩:=two_i i8
   refine⟨_,rfl,_,rfl,_,rfl,_,rfl,_,rfl,pa,fa,p,f,en,rfl,sp.keep sm,sf.keep sm,hpf,zp,zf,by omega,by omega,λ a H1 s1 sh1=>?_⟩
   refine⟨x,sa,a,n,ps,sh,_,rfl,hx.keep (sm.trans s1),fs.keep (sm.trans s1),sh1,λ H2 s2=>⟨_,rfl,?_⟩⟩
   rw[<-one en]
   obtain⟨k,ek⟩:∃ k,10-i=k+1:=⟨9-i,by omega⟩
   rw[ek] at ef
   unfold fstL at ef
   cases c:Ec en.toNat with
   | true =>
    rw[if_pos c] at ef
    exact iteF (hM _ _ ⟨sm.trans (s1.trans s2),tf,en,v6,rfl,t0,t1,by omega,c,ef.symm⟩)
   | false =>
    rw[if_neg (by rw[c];exact Bool.false_ne_true)] at ef
    have i7:i≠8:=λ z=>by
     have e:en=255:=by rw[een];exact b3 z
     rw[e] at c
     have:Ec 255=false:=c
     rw[h255] at this
     cases this
    refine iteT ⟨_,rfl,_,rfl,_,_,rfl,rfl,.inl ⟨by decide,by decide⟩,_,_,rfl,rfl,?_⟩
    refine⟨⟨sm.trans (s1.trans s2),en,2*en+1,v6,i+1,rfl,by omega,by omega,by omega,?_,?_⟩,?_⟩
    ·rw[een,Int.pow_succ];omega
    ·rw[show 10-(i+1)=k by omega];exact ef
    ·show (300-(2*en+1)).toNat<(300-en).toNat
     omega
  ·intro σ H Q Q' hq h
   obtain⟨v1,e1,v2,e2,v3,e3,v4,e4,v5,e5,pa,fa,p,f,hh,ev,a1,a2,a3,a4,a5,a6,a7,qq⟩:=h
   refine⟨v1,e1,v2,e2,v3,e3,v4,e4,v5,e5,pa,fa,p,f,hh,ev,a1,a2,a3,a4,a5,a6,a7,λ a H' sm sh=>?_⟩
   obtain⟨x',sa',a',n',ps',s',p',ev',b1,b2,b3,q'⟩:=qq a H' sm sh
   refine⟨x',sa',a',n',ps',s',p',ev',b1,b2,b3,λ H2 s2=>?_⟩
   obtain⟨k,ek,hk⟩:=q' H2 s2
   exact⟨k,ek,hq _ _ hk⟩
 rintro σ G1 ⟨sm,tf0,en0,v6,rfl,t0,t1,t2,te,efs⟩
 have eL:lackH Ec=(bsrL Ec 300 tf0 en0).toNat:=by unfold lackH;rw[efs]
 refine seq_by (λ σ G'=>Same G G'/\∃ (tf en:Int) (v6:Option V),σ = [some (.ref x),some (.ref sa),some (.ref pa),some (.ref fa),some (.int tf),some (.int en),v6]/\0<=en/\en<=255/\Ec en.toNat=true/\lackH Ec=en.toNat) ?_ ?_
 ·intro M hM
  refine while_by (λ σ G'=>Same G G'/\∃ (tf en:Int) (v6:Option V) (k:Nat),σ = [some (.ref x),some (.ref sa),some (.ref pa),some (.ref fa),some (.int tf),some (.int en),v6]/\-1<=tf/\tf<en/\en<=255/\Ec en.toNat=true/\(en-tf).toNat<k/\(bsrL Ec k tf en).toNat=lackH Ec) (λ σ _=>muM σ) ⟨sm,tf0,en0,v6,300,rfl,t0,t1,t2,te,by omega,eL.symm⟩ ?_ ?_
  ·rintro σ G2 ⟨sm,tf,en,v6,k,rfl,t0,t1,t2,te,hk,ek⟩
   obtain⟨k',rfl⟩:∃ k',k=k'+1:=⟨k-1,by omega⟩
   unfold bsrL at ek
   refine⟨_,rfl,_,rfl,_,_,rfl,rfl,_,_,rfl,rfl,_,rfl,?_⟩
   refine ite2 (λ c1=>?_) (λ c1=>?_)
   ·have c2:1<en-tf:=of_decide_eq_true c1
    rw[if_pos c2] at ek
    refine⟨_,rfl,_,rfl,_,_,rfl,rfl,_,_,rfl,rfl,⟨by decide,by decide⟩,?_⟩
    have m1:tf<(tf+en) / 2/\(tf+en) / 2<en:=by omega
    refine⟨_,rfl,_,rfl,_,rfl,_,rfl,_,rfl,pa,fa,p,f,(tf+en) / 2,rfl,sp.keep sm,sf.keep sm,hpf,zp,zf,by omega,by omega,λ a H1 s1 sh1=>?_⟩
    refine⟨x,sa,a,n,ps,sh,_,rfl,hx.keep (sm.trans s1),fs.keep (sm.trans s1),sh1,λ H2 s2=>⟨_,rfl,?_⟩⟩
    rw[<-one ((tf+en) / 2)]
    cases c:Ec ((tf+en) / 2).toNat with
    | true =>
     rw[if_pos c] at ek
     refine iteT ⟨_,rfl,⟨sm.trans (s1.trans s2),tf,(tf+en) / 2,some (.int ((tf+en) / 2)),k',rfl,by omega,by omega,by omega,c,by omega,ek⟩,?_⟩
     show ((tf+en) / 2-tf).toNat<(en-tf).toNat
     omega
    | false =>
     rw[if_neg (by rw[c];exact Bool.false_ne_true)] at ek
     refine iteF ⟨_,rfl,⟨sm.trans (s1.trans s2),(tf+en) / 2,en,some (.int ((tf+en) / 2)),k',rfl,by omega,by omega,by omega,te,by omega,ek⟩,?_⟩
     show (en-(tf+en) / 2).toNat<(en-tf).toNat
     omega
   ·have c2:¬ 1<en-tf:=λ z=>c1 (decide_eq_true z)
    rw[if_neg c2] at ek
    exact hM _ _ ⟨sm,tf,en,v6,rfl,by omega,by omega,te,ek.symm⟩
  ·intro σ H Q Q' hq h
   obtain⟨v1,e1,v2,e2,x,y,ex,ey,z,w',ez,ew,k,ek,h2⟩:=h
   exact⟨v1,e1,v2,e2,x,y,ex,ey,z,w',ez,ew,k,ek,hq _ _ h2⟩
 rintro σ G2 ⟨sm,tf,en,v6,rfl,n0,n1,te,eL2⟩
 refine⟨_,rfl,_,rfl,_,rfl,pa,fa,p,f,en,rfl,sp.keep sm,sf.keep sm,hpf,zp,zf,n0,n1,λ a H1 s1 sh1=>?_⟩
 rw[<-eL2] at sh1 te
 exact q a H1 (sm.trans s1) te sh1
noncomputable def spStream:Sp:=λ vs H Q _=>∃ (c salt:Int) (m:Nat),vs = [.int c,.int salt,.int m]/\0<=salt/\salt<=100/\m<=10/\∀ (l:Addr) (H':Hp) (xs:List Int),H l=none->Same H H'->H' l=some (.lst (xs.map V.int))->xs.length=m->(∀ x∈xs,0<=x/\x<2147483647)->Q (.ref l) H'
theorem sc_stream:FnScope ["_law_cell","_law_salt","_law_many","_law_found","_law_number","_law_k"] ["_law_cell","_law_salt","_law_many"] (defScope s_stream):=⟨rfl,rfl,rfl,by decide +kernel,rfl,by decide +kernel,by decide +kernel⟩
theorem ok_stream {f:Addr}{fd:FuncData} (F:Fun K "_law_stream" "_law_stream" s_stream f fd) (T:Txt mg):FnOk P w K mg base CX0 1 f fd ["_law_cell","_law_salt","_law_many"] spStream:=by
 refine F.ok sc_stream (λ vs H Q E h=>?_) (λ cdv A outer s H vs Q E hr h=>?_)
 ·obtain⟨c,salt,m,rfl,_⟩:=h
  rfl
 obtain⟨c,salt,m,rfl,s0,s1,hm,q⟩:=h
 refine⟨_,(pss_cons (ps_set (i:=3) sc_stream.nd rfl (Or.inl rfl) (pe_lst pa_nil))
  (pss_cons (ps_set (i:=4) sc_stream.nd rfl (Or.inl rfl) (pe_op op_mod (pe_op op_add (pe_op op_add (pe_op op_mul (pe_op op_mod (pv 0) pe_int) pe_int) (pe_op op_mul (pe_op op_mul (pv 1) (pv 1)) pe_int)) pe_int) pe_int))
  (pss_cons (ps_for PassesOwn.never rfl (pi_range1 rfl T.range (pa_cons (pv 2) pa_nil)) (pg_name (i:=5) sc_stream.nd rfl (Or.inl rfl)) (pss_cons (ps_set (i:=4) sc_stream.nd rfl (Or.inl rfl) (pe_op op_mod (pe_op op_add (pe_op op_add (pe_op op_add (pe_op op_mul (pv 4) (pv 4)) (pe_op op_mul pe_int (pv 4))) (pv 5)) (pv 1)) pe_int))
   (pss_one (ps_expr (pe_bm PySem.F.plainAttrs_list PySem.F.slot_list_append PySem.F.type_list_append mt_append (pv 3) (pa_cons (pv 4) pa_nil))))))
  (pss_one (ps_ret (pv 3)))))),?_⟩
 have M0:(0:Int)<2147483647:=by decide
 refine⟨Nat.zero_le _,λ l hl=>?_⟩
 refine⟨_,rfl,_,_,rfl,rfl,M0,_,_,rfl,rfl,.inr ⟨by decide,by decide⟩,_,rfl,_,rfl,_,_,rfl,rfl,.inl ⟨by omega,by omega⟩,_,_,rfl,rfl,.inr ⟨by decide,by decide⟩,_,_,rfl,rfl,_,_,rfl,rfl,_,_,rfl,rfl,M0,?_⟩
 refine⟨_,rfl,_,rfl,by omega,by omega,?_⟩
 have em:((m:Int)).toNat=m:=rfl
 rw[em]
 refine for_range (lo:=0) (λ i σ H'=>Same H H'/\∃ (xs:List Int) (x:Int) (v:Option V),σ = [some (.int c),some (.int salt),some (.int m),some (.ref l),some (.int x),v]/\0<=x/\x<2147483647/\H' l=some (.lst (xs.map V.int))/\xs.length=i/\∀ x∈xs,0<=x/\x<2147483647)
  ⟨same_new hl _,[],_,none,rfl,md0 _ M0,md1 _ M0,upd_same,rfl,λ x hx=>by cases hx⟩ ?_ ?_
 ·rintro i σ H1 hi ⟨sm,xs,x,v,rfl,x0,x1,e,hx,hall⟩
  refine⟨_,rfl,_,rfl,_,_,rfl,rfl,.inl ⟨by omega,by omega⟩,_,rfl,_,_,rfl,rfl,.inl ⟨by decide,by decide⟩,_,_,rfl,rfl,_,rfl,_,_,rfl,rfl,_,rfl,_,_,rfl,rfl,_,_,rfl,rfl,M0,?_⟩
  refine⟨_,rfl,.inl ⟨rfl,_,SqL.of e⟩,_,rfl,l,_,_,rfl,rfl,e,?_,?_⟩
  ·rw[List.length_map,hx];unfold sizeLine;omega
  refine⟨λ b o eb=>by rw[upd_ne (ne_of_none eb hl)];exact sm b o eb,xs++[(x*x+48271*x+(0+(i:Int))+salt)%2147483647],_,_,rfl,md0 _ M0,md1 _ M0,?_,by simp [hx],?_⟩
  ·rw[upd_same,List.map_append]<;>rfl
  ·intro y hy
   rcases List.mem_append.mp hy with hy | hy
   ·exact hall y hy
   ·rw[List.mem_singleton.mp hy]
    exact⟨md0 _ M0,md1 _ M0⟩
 ·rintro σ H1 ⟨sm,xs,x,v,rfl,x0,x1,e,hx,hall⟩
  exact⟨_,rfl,q l H1 xs hl sm e hx hall⟩
structure FqA (H:Hp) (f:Addr) (r:Rat):Prop where
 ob:∃ t b:Int,H f=some (.tup [.int t,.int b])/\0<b/\r*(b:Rat)=(t:Rat)/\Smk t/\Smk b
theorem FqA.keep {H H':Hp}{f:Addr}{r:Rat} (h:FqA H f r) (s:Same H H'):FqA H' f r:=by
 obtain⟨t,b,e,h1,h2,h3,h4⟩:=h.ob
 exact⟨t,b,s _ _ e,h1,h2,h3,h4⟩
theorem fq_le {t1 b1 t2 b2:Int}{r s:Rat} (p1:0<b1) (p2:0<b2) (e1:r*(b1:Rat)=(t1:Rat)) (e2:s*(b2:Rat)=(t2:Rat)):t1*b2<=t2*b1↔r<=s:=by
 have q1:(0:Rat)<(b1:Rat):=by exact_mod_cast p1
 have q2:(0:Rat)<(b2:Rat):=by exact_mod_cast p2
 have q3:=Rat.mul_pos q1 q2
 have c1:((t1*b2:Int):Rat)=((b1:Rat)*(b2:Rat))*r:=by rw[Rat.intCast_mul,<-e1];grind
 have c2:((t2*b1:Int):Rat)=((b1:Rat)*(b2:Rat))*s:=by rw[Rat.intCast_mul,<-e2];grind
 rw[<-Rat.intCast_le_intCast,c1,c2]
 constructor
 ·intro h
  by_cases c:r<=s
  ·exact c
  ·have:=Rat.mul_pos q3 (show 0<r-s by grind)
   grind
 ·intro h
  exact rle h (by grind)
noncomputable def spNm:Sp:=λ vs H Q _=>∃ f g r s,vs = [.ref f,.ref g]/\FqA H f r/\FqA H g s/\Q (.bl (decide (r<=s))) H
theorem sc_nm:FnScope ["_law_one","_law_other"] ["_law_one","_law_other"] (defScope s_nm):=⟨rfl,rfl,rfl,by decide +kernel,rfl,by decide +kernel,by decide +kernel⟩
theorem ok_nm {f:Addr}{fd:FuncData} (F:Fun K "_law_no_more" "_law_no_more" s_nm f fd) (T:Txt mg):FnOk P w K mg base CX0 1 f fd ["_law_one","_law_other"] spNm:=by
 refine F.ok sc_nm (λ vs H Q E h=>?_) (λ cdv A outer s H vs Q E hr h=>?_)
 ·obtain⟨f,g,r,s,rfl,_⟩:=h
  rfl
 obtain⟨f,g,r,s,rfl,⟨t1,b1,o1,p1,e1,z1,z2⟩,⟨t2,b2,o2,p2,e2,z3,z4⟩,q⟩:=h
 refine⟨_,(pss_one (ps_ret (pe_cmpR op_le (pe_op op_mulK (pe_ix ix_tup (pv 0) pe_int (λ _ _=>rfl)) (pe_ix ix_tup (pv 1) pe_int (λ _ _=>rfl))) (pe_op op_mulK (pe_ix ix_tup (pv 1) pe_int (λ _ _=>rfl)) (pe_ix ix_tup (pv 0) pe_int (λ _ _=>rfl))) (nomark _)))),?_⟩
 refine⟨_,rfl,f,_,0,_,rfl,rfl,SqT.of o1,at0,_,rfl,g,_,1,_,rfl,rfl,SqT.of o2,at1,_,_,rfl,rfl,⟨z1,z4⟩,_,rfl,g,_,0,_,rfl,rfl,SqT.of o2,at0,_,rfl,f,_,1,_,rfl,rfl,SqT.of o1,at1,_,_,rfl,rfl,⟨z3,z2⟩,_,_,rfl,rfl,?_⟩
 have e:=fq_le p1 p2 e1 e2
 have e':decide (t1*b2<=t2*b1)=decide (r<=s):=by
  by_cases c:r<=s
  ·rw[decide_eq_true c,decide_eq_true (e.mpr c)]
  ·rw[decide_eq_false c,decide_eq_false λ z=>c (e.mp z)]
 show Q (.bl (decide (t1*b2<=t2*b1))) H
 rw[e']
 exact q
noncomputable def spLw:Sp:=λ vs H Q _=>∃ t b:Int,vs = [.int t,.int b]/\0<=t/\0<b/\Smk b/\∀ a H',Same H H'->H' a=some (.tup [.int (rq t b).num,.int ((rq t b).den:Int)])->Q (.ref a) H'
theorem rq_mul20 {t b:Int} (hb:0<b):rq t b*(b:Rat)=(t:Rat):=by
 have hq : (b : Rat) ≠ 0 := by intro e; have : b = 0 := by exact_mod_cast e
                               omega
 unfold rq
 grind
theorem rq_unit {t b:Int} (t0:0<=t) (t1:t<=b) (hb:0<b):0<=rq t b/\rq t b<=1:=by
 have e:=rq_mul20 (t:=t) hb
 have bp:(0:Rat)<(b:Rat):=by exact_mod_cast hb
 have tq:(0:Rat)<=(t:Rat):=by exact_mod_cast t0
 have lq:(t:Rat)<=(b:Rat):=by exact_mod_cast t1
 have n0:0<=rq t b:=nonneg_of bp (by grind)
 have n1:0<=1-rq t b:=nonneg_of bp (by grind)
 exact⟨n0,by grind⟩
theorem shp_new {H:Hp}{a:Addr}{t b:Int}{m:Nat} (t0:0<=t) (t1:t<=b) (hb:0<b) (sb:Sz m b) (hm:m<=300) (e:H a=some (.tup [.int (rq t b).num,.int ((rq t b).den:Int)])):Shp H a (rq t b)/\Sz m ((rq t b).den:Int) :=
 ⟨⟨e,(rq_unit t0 t1 hb).1,(rq_unit t0 t1 hb).2,(shp_sz t0 t1 hb sb).mono hm⟩,shp_sz t0 t1 hb sb⟩
theorem sc_low:FnScope ["_law_top","_law_bottom","_law_by"] ["_law_top","_law_bottom"] (defScope s_low):=⟨rfl,rfl,rfl,by decide +kernel,rfl,by decide +kernel,by decide +kernel⟩
theorem ok_low {f:Addr}{fd:FuncData} (F:Fun K "_law_lowest" "_law_lowest" s_low f fd) (T:Txt mg) {fdv:Addr}{ddv:FuncData} (Gdv:FnOk P w K mg base CX0 1 fdv ddv ["_law_one","_law_other"] spCd) (bdv:Binds K ddv ["_law_one","_law_other"] []) (kdv:PySem.W.keepIn K (.ref fdv)=true) (mdv:mg "_law_divisor" = some (.ref fdv)):FnOk P w K mg base CX0 2 f fd ["_law_top","_law_bottom"] spLw:=by
 refine F.ok sc_low (λ vs H Q E h=>?_) (λ cdv A outer s H vs Q E hr h=>?_)
 ·obtain⟨t,b,rfl,_⟩:=h
  rfl
 obtain⟨t,b,rfl,t0,b0,sB,q⟩:=h
 refine⟨_,(pss_cons (ps_set (i:=2) sc_low.nd rfl (Or.inl rfl) (pe_call Gdv hr rfl mdv kdv bdv .nil pass0 (pa_cons (pv 0) (pa_cons (pv 1) pa_nil))))
  (pss_one (ps_ret (pe_tup (pa_cons (pe_op op_fdivK (pv 0) (pv 2)) (pa_cons (pe_op op_fdivK (pv 1) (pv 2)) pa_nil)))))),?_⟩
 have nd:=frD_ne (t:=t) (b:=b) (by omega)
 have sd:=smk_frD (a:=t) (b:=b) (by omega) sB
 have fd:=frD_pos (a:=t) b0
 rw[fd] at nd sd
 refine⟨_,rfl,_,rfl,t,b,rfl,t0,by omega,?_⟩
 refine⟨_,rfl,_,rfl,_,_,rfl,rfl,⟨nd,sd⟩,_,rfl,_,rfl,_,_,rfl,rfl,⟨nd,sd⟩,(by show 2<=sizeLine;decide),λ p3 h3=>?_⟩
 obtain⟨f1,f2⟩:=fr_rat (Int.ne_of_gt b0) (rq_mul20 (t:=t) b0)
 unfold frT at f1
 unfold frB at f2
 rw[fd] at f1 f2
 refine q p3 _ (same_new h3 _) ?_
 rw[upd_same]
 show some (HO.tup [V.int (t.fdiv (Int.gcd t b:Int)),V.int (b.fdiv (Int.gcd t b:Int))])=_
 rw[f1,f2]
theorem mid_run {n:Nat}{ps:List (Rat×Rat)} (ok:IsRule n ps) {k:Nat}{a b:Rat} (ea:(edg (rimL ps))[k]? = some a) (eb:(edg (rimL ps))[k+1]? = some b) {p:Rat} (h1:a<p) (h2:p<b):runOf ps p p=runOf ps a b:=by
 obtain⟨i1,i2⟩:=edg_ok (rimL ps)
 obtain⟨_,gap⟩:=inc_gap i1 ea eb
 have mem1:∀ x∈lowsOf ps,x∈edg (rimL ps):=λ x hx=>by
  obtain⟨z,hz,rfl⟩:=List.mem_map.mp hx
  refine (i2 _).mpr (List.mem_cons_of_mem _ (List.mem_cons_of_mem _ (List.mem_flatMap.mpr ⟨z,hz,?_⟩)))
  simp
 have mem2:∀ x∈highsOf ps,x∈edg (rimL ps):=λ x hx=>by
  obtain⟨z,hz,rfl⟩:=List.mem_map.mp hx
  refine (i2 _).mpr (List.mem_cons_of_mem _ (List.mem_cons_of_mem _ (List.mem_flatMap.mpr ⟨z,hz,?_⟩)))
  simp
 have u1:upto p (lowsOf ps)=upto a (lowsOf ps):=upto_same ok.lows (by grind) λ x hx c=>gap x (mem1 x hx) ⟨c.1,by grind⟩
 have u2:lower p (highsOf ps)=lower b (highsOf ps):=lower_same ok.highs (by grind) λ x hx c=>gap x (mem2 x hx) ⟨by grind,c.2⟩
 unfold runOf
 rw[u1,u2]
theorem lows_gap {ps:List (Rat×Rat)}{k:Nat}{a b:Rat} (ea:(edg (rimL ps))[k]? = some a) (eb:(edg (rimL ps))[k+1]? = some b) :
  a<b/\(∀ x∈lowsOf ps,¬ (a<x/\x<b))/\∀ x∈highsOf ps,¬ (a<x/\x<b):=by
 obtain⟨i1,i2⟩:=edg_ok (rimL ps)
 obtain⟨h,gap⟩:=inc_gap i1 ea eb
 refine⟨h,λ x hx=>gap x ?_,λ x hx=>gap x ?_⟩
 ·obtain⟨z,hz,rfl⟩:=List.mem_map.mp hx
  refine (i2 _).mpr (List.mem_cons_of_mem _ (List.mem_cons_of_mem _ (List.mem_flatMap.mpr ⟨z,hz,?_⟩)))
  simp
 ·obtain⟨z,hz,rfl⟩:=List.mem_map.mp hx
  refine (i2 _).mpr (List.mem_cons_of_mem _ (List.mem_cons_of_mem _ (List.mem_flatMap.mpr ⟨z,hz,?_⟩)))
  simp
theorem fold_min:∀ (l:List Cd) (o:Option Cd) (c:Cd),l.foldl stepC o=some c->(∀ d∈l,c.1<=d.1)/\(∀ e,o=some e->c.1<=e.1)/\(c∈l∨o=some c)
 | [],o,c,h=>⟨λ d hd=>(by cases hd),λ e he=>(by rw[List.foldl_nil] at h;rw[he] at h;cases h;grind),.inr h⟩
 | d::l,o,c,h=>by
  rw[List.foldl_cons] at h
  obtain⟨h1,h2,h3⟩:=fold_min l (stepC o d) c h
  have key:c.1<=d.1/\(∀ e,o=some e->c.1<=e.1)/\(stepC o d=some d∨∃ e,o=some e/\stepC o d=some e):=by
   cases o with
   | none=>exact⟨h2 d rfl,λ e he=>(by cases he),.inl rfl⟩
   | some e =>
    by_cases cc:d.1<e.1
    ·have es:stepC (some e) d=some d:=if_pos cc
     have:=h2 d es
     exact⟨this,λ e' he=>(by cases he;grind),.inl es⟩
    ·have es:stepC (some e) d=some e:=if_neg cc
     have:=h2 e es
     exact⟨by grind,λ e' he=>(by cases he;exact this),.inr ⟨e,rfl,es⟩⟩
  refine⟨λ x hx=>?_,key.2.1,?_⟩
  ·rcases List.mem_cons.mp hx with rfl | hx
   ·exact key.1
   ·exact h1 x hx
  ·rcases h3 with h3 | h3
   ·exact .inl (List.mem_cons_of_mem _ h3)
   ·rcases key.2.2 with k | ⟨e,ke,k⟩
    ·rw[k] at h3
     cases h3
     exact .inl (List.mem_cons_self ..)
    ·rw[k] at h3
     cases h3
     exact .inr ke
theorem allPc_at {ps:List (Rat×Rat)}{k:Nat}{a b:Rat} (ea:(edg (rimL ps))[k]? = some a) (eb:(edg (rimL ps))[k+1]? = some b):(a,b,runOf ps a b)∈allPc ps:=by
 have hk:=(List.getElem?_eq_some_iff.mp eb).1
 refine List.mem_map.mpr ⟨k,List.mem_range.mpr (by omega),?_⟩
 have e1:(edg (rimL ps)).getD k 0=a:=by rw[List.getD_eq_getElem?_getD,ea];rfl
 have e2:(edg (rimL ps)).getD (k+1) 0=b:=by rw[List.getD_eq_getElem?_getD,eb];rfl
 rw[e1,e2]
theorem best_le {n:Nat}{ps:List (Rat×Rat)} (ok:IsRule n ps) {c:Cd} (hc:bestC n (allPc ps)=some c) {p:Rat} (h0:0<=p) (h1:p<=1) (pin:∀ x∈rimL ps,0<=x/\x<=1):c.1<=rsumO p n (runOf ps p p):=by
 obtain⟨m1,_,_⟩:=fold_min _ _ _ hc
 obtain⟨i1,i2⟩:=edg_ok (rimL ps)
 obtain⟨k,a,b,ea,eb,ha,hb⟩:=inc_between i1 ((i2 0).mpr (List.mem_cons_self ..)) ((i2 1).mpr (List.mem_cons_of_mem _ (List.mem_cons_self ..))) h0 h1
 have hin:=allPc_at ea eb
 have cA:c.1<=rsumO a n (runOf ps a b):=m1 (rsumO a n (runOf ps a b),a,true,b) (List.mem_flatMap.mpr ⟨_,hin,by simp [cdsOf]⟩)
 have cB:c.1<=rsumO b n (runOf ps a b):=m1 (rsumO b n (runOf ps a b),b,false,a) (List.mem_flatMap.mpr ⟨_,hin,by simp [cdsOf]⟩)
 have a01:=pin a ((i2 a).mp (List.mem_of_getElem? ea))
 have b01:=pin b ((i2 b).mp (List.mem_of_getElem? eb))
 obtain⟨_,gl,gh⟩:=lows_gap ea eb
 rw[cov_run] at cA cB ⊢
 by_cases c1:a=p
 ·subst c1
  have:=cov_wider (n:=n) (ls:=lowsOf ps) (hs:=highsOf ps) (a:=a) (b:=b) (a':=a) (b':=a) (p:=a) h0 h1 (by grind) hb
  grind
 ·by_cases c2:p=b
  ·subst c2
   have:=cov_wider (n:=n) (ls:=lowsOf ps) (hs:=highsOf ps) (a:=a) (b:=p) (a':=p) (b':=p) (p:=p) h0 h1 ha (by grind)
   grind
  ·have:=(cov_piece (n:=n) ok.lows ok.highs (by rw[List.length_map,ok.len];exact Nat.le_refl _) (by rw[List.length_map,ok.len];exact Nat.le_refl _) a01.1 b01.2 (show a<p by grind) (show p<b by grind) gl gh).2
   grind
theorem best_at {n:Nat}{ps:List (Rat×Rat)}{c:Cd} (hc:bestC n (allPc ps)=some c):∃ (k:Nat) (a b:Rat),(edg (rimL ps))[k]? = some a/\(edg (rimL ps))[k+1]? = some b/\(c=(rsumO a n (runOf ps a b),a,true,b)∨c=(rsumO b n (runOf ps a b),b,false,a)):=by
 obtain⟨_,_,m3⟩:=fold_min _ _ _ hc
 rcases m3 with m3 | m3
 ·obtain⟨p,hp,hcp⟩:=List.mem_flatMap.mp m3
  obtain⟨k,hk,rfl⟩:=List.mem_map.mp hp
  have hk':=List.mem_range.mp hk
  refine⟨k,(edg (rimL ps)).getD k 0,(edg (rimL ps)).getD (k+1) 0,by rw[List.getD_eq_getElem?_getD,List.getElem?_eq_getElem (show k<(edg (rimL ps)).length by omega)]<;>rfl,by rw[List.getD_eq_getElem?_getD,List.getElem?_eq_getElem (show k+1<(edg (rimL ps)).length by omega)]<;>rfl,?_⟩
  simpa [cdsOf] using hcp
 ·cases m3
theorem beside_le {n:Nat}{ps:List (Rat×Rat)} (ok:IsRule n ps) {k:Nat}{a b p:Rat} (ea:(edg (rimL ps))[k]? = some a) (eb:(edg (rimL ps))[k+1]? = some b) (pin:∀ x∈rimL ps,0<=x/\x<=1) (h1:a<p) (h2:p<b) :
  rsumO p n (runOf ps p p)<=rsumO a n (runOf ps a b)+(n:Rat)*(p-a)/\rsumO p n (runOf ps p p)<=rsumO b n (runOf ps a b)+(n:Rat)*(b-p):=by
 obtain⟨i1,i2⟩:=edg_ok (rimL ps)
 have a01:=pin a ((i2 a).mp (List.mem_of_getElem? ea))
 have b01:=pin b ((i2 b).mp (List.mem_of_getElem? eb))
 rw[mid_run ok ea eb h1 h2]
 cases hr:runOf ps a b with
 | none =>
  have z1:(0:Rat)<=(n:Rat)*(p-a):=Rat.mul_nonneg (by exact_mod_cast Nat.zero_le n) (by grind)
  have z2:(0:Rat)<=(n:Rat)*(b-p):=Rat.mul_nonneg (by exact_mod_cast Nat.zero_le n) (by grind)
  show (0:Rat)<=0+_/\(0:Rat)<=0+_
  grind
 | some z =>
  obtain⟨z1,z2⟩:=run_in ok hr
  show rsum p n z.1 z.2<=rsum a n z.1 z.2+_/\rsum p n z.1 z.2<=rsum b n z.1 z.2+_
  rw[rsum_le z1,rsum_le z1,rsum_le z1]
  have l1:=rn_lip a01.1 (show a<=p by grind) (by grind) n (show z.1<=z.2+1 by omega)
  have l2:=rn_lip (show 0<=p by grind) (show p<=b by grind) b01.2 n (show z.1<=z.2+1 by omega)
  grind
noncomputable def lkR (n:Nat) (ps:List (Rat×Rat)) (s:Rat) (c:Cd):Rat:=besR c.2.1 c.2.2.2 (lackH (covE n ps s c.2.1 c.2.2.2))
theorem near_lt {n:Nat} (n1:1<=n) {x y g T:Rat} (T0:0<T) (h1:x<y) (h2:y*T<=1) (h3:(n:Rat)<=g*T):(n:Rat)*x<g:=by
 have np:(0:Rat)<(n:Rat):=castpos n1
 have k1:0<T*(y-x):=Rat.mul_pos T0 (by grind)
 have k2:0<(n:Rat)*(T*(y-x)):=Rat.mul_pos np k1
 have k3:(n:Rat)*(y*T)<=(n:Rat)*1:=Rat.mul_le_mul_of_nonneg_left h2 (by grind)
 have:0<T*(g-(n:Rat)*x):=by grind
 have:=pos_of T0 this
 grind
theorem best_edges {n:Nat}{ps:List (Rat×Rat)}{c:Cd} (hc:bestC n (allPc ps)=some c):c.2.1∈rimL ps/\c.2.2.2∈rimL ps/\c.2.1≠c.2.2.2:=by
 obtain⟨k,a,b,ea,eb,hcc⟩:=best_at hc
 obtain⟨i1,i2⟩:=edg_ok (rimL ps)
 have ma:=(i2 a).mp (List.mem_of_getElem? ea)
 have mb:=(i2 b).mp (List.mem_of_getElem? eb)
 have lt:=(inc_gap i1 ea eb).1
 rcases hcc with rfl | rfl
 ·exact⟨ma,mb,by show a≠b;grind⟩
 ·exact⟨mb,ma,by show b≠a;grind⟩
theorem cov255 {n:Nat}{ps:List (Rat×Rat)} (ok:IsRule n ps) {c:Cd} (hc:bestC n (allPc ps)=some c) (pin:∀ x∈rimL ps,0<=x/\x<=1) {s:Rat} (gap:(n:Rat)<=(s-c.1)*(2:Rat)^255):covE n ps s c.2.1 c.2.2.2 255=true:=by
 obtain⟨k,a,b,ea,eb,hcc⟩:=best_at hc
 obtain⟨i1,i2⟩:=edg_ok (rimL ps)
 have pa:=pin a ((i2 a).mp (List.mem_of_getElem? ea))
 have pb:=pin b ((i2 b).mp (List.mem_of_getElem? eb))
 have lt:=(inc_gap i1 ea eb).1
 have T0:=(two_pow 255).1
 unfold covE
 rcases hcc with rfl | rfl
 ·show decide (rsumO (besR a b 255) n (runOf ps (besR a b 255) (besR a b 255))<s)=true
  obtain⟨b1,b2⟩:=(bes_in (p:=a) (f:=b) pa.1 pb.1 255).1 lt
  obtain⟨_,r2⟩:=(rch_in (p:=a) (f:=b) 255).1 lt
  have e:(rch a b 255-a)*(2:Rat)^255=b-a:=by unfold rch;grind
  have le:=(beside_le ok ea eb pin b1 (show besR a b 255<b by grind)).1
  have gap':(n:Rat)<=(s-rsumO a n (runOf ps a b))*(2:Rat)^255:=gap
  have:=near_lt ok.n1 T0 (x:=besR a b 255-a) (y:=rch a b 255-a) (by grind) (by rw[e];grind) gap'
  exact decide_eq_true (by grind)
 ·show decide (rsumO (besR b a 255) n (runOf ps (besR b a 255) (besR b a 255))<s)=true
  obtain⟨b1,b2⟩:=(bes_in (p:=b) (f:=a) pb.1 pa.1 255).2 lt
  obtain⟨r1,_⟩:=(rch_in (p:=b) (f:=a) 255).2 lt
  have e:(b-rch b a 255)*(2:Rat)^255=b-a:=by unfold rch;grind
  have le:=(beside_le ok ea eb pin (show a<besR b a 255 by grind) b2).2
  have gap':(n:Rat)<=(s-rsumO b n (runOf ps a b))*(2:Rat)^255:=gap
  have:=near_lt ok.n1 T0 (x:=b-besR b a 255) (y:=b-rch b a 255) (by grind) (by rw[e];grind) gap'
  exact decide_eq_true (by grind)
theorem at3 {x y z w:V}{xs:List V}:atI (x::y::z::w::xs) 3=some w:=atI_nat (xs:=x::y::z::w::xs) (j:=3) rfl
noncomputable def spSure:Sp:=λ vs H Q _=>∃ (x sa:Addr) (n:Nat) (ps:List (Rat×Rat)) (s:Rat) (c:Cd),vs = [.ref x,.ref sa]/\RuleAt H x n ps/\FrA H sa s/\bestC n (allPc ps)=some c/\(∀ y∈rimL ps,0<=y/\y<=1)/\(∀ y∈rimL ps,Sz 20 (y.den:Int))/\(c.1<s->(n:Rat)<=(s-c.1)*(2:Rat)^255) /\
 (s<=c.1->∀ y u H',Same H H'->H' y=some (.tup [.str "sure",.ref u])->FrA H' u c.1->Q (.ref y) H') /\
 (c.1<s->∀ y pa ca H',Same H H'->H' y=some (.tup [.str "not",.ref pa,.ref ca])->Shp H' pa (lkR n ps s c)->FrA H' ca (rsumO (lkR n ps s c) n (runOf ps (lkR n ps s c) (lkR n ps s c)))->rsumO (lkR n ps s c) n (runOf ps (lkR n ps s c) (lkR n ps s c))<s->Q (.ref y) H')
theorem sc_sure:FnScope ["rule","share","place","p"] ["rule","share"] (defScope s_sure):=⟨rfl,rfl,rfl,by decide +kernel,rfl,by decide +kernel,by decide +kernel⟩
theorem ok_sure {f:Addr}{fd:FuncData} (F:Fun K "sure" "sure" s_sure f fd) (T:Txt mg) {flpl:Addr}{dlpl:FuncData} (Glpl:FnOk P w K mg base CX0 8 flpl dlpl ["rule"] spLpl) (blpl:Binds K dlpl ["rule"] []) (klpl:PySem.W.keepIn K (.ref flpl)=true) (mlpl:mg "least_place" = some (.ref flpl)) {fund:Addr}{dund:FuncData} (Gund:FnOk P w K mg base CX0 8 fund dund ["one","other"] spUnd) (bund:Binds K dund ["one","other"] []) (kund:PySem.W.keepIn K (.ref fund)=true) (mund:mg "under" = some (.ref fund)) {flack:Addr}{dlack:FuncData} (Glack:FnOk P w K mg base CX0 8 flack dlack ["rule","share","at","far"] spLack) (black:Binds K dlack ["rule","share","at","far"] []) (klack:PySem.W.keepIn K (.ref flack)=true) (mlack:mg "share_lacking" = some (.ref flack)) {fcov:Addr}{dcov:FuncData} (Gcov:FnOk P w K mg base CX0 8 fcov dcov ["rule","p"] spCov) (bcov:Binds K dcov ["rule","p"] []) (kcov:PySem.W.keepIn K (.ref fcov)=true) (mcov:mg "cover" = some (.ref fcov)):FnOk P w K mg base CX0 9 f fd ["rule","share"] spSure:=by
 refine F.ok sc_sure (λ vs H Q E h=>?_) (λ cdv A outer s H vs Q E hr h=>?_)
 ·obtain⟨x,sa,n,ps,s,c,rfl,_⟩:=h
  rfl
 obtain⟨x,sa,n,ps,sh,c,rfl,hx,fs,hc,pin,psz,gap,q1,q2⟩:=h
 refine⟨_,(pss_cons (ps_set (i:=2) sc_sure.nd rfl (Or.inl rfl) (pe_call Glpl hr rfl mlpl klpl blpl .nil pass0 (pa_cons (pv 0) pa_nil)))
  (pss_cons (ps_if (pt_not (pt_val (pe_call Gund hr rfl mund kund bund .nil pass0 (pa_cons (pe_ix ix_tup (pv 2) pe_int (λ _ _=>rfl)) (pa_cons (pv 1) pa_nil))))) (pss_one (ps_ret (pe_tup (pa_cons pe_str (pa_cons (pe_ix ix_tup (pv 2) pe_int (λ _ _=>rfl)) pa_nil))))) pss_nil)
  (pss_cons (ps_set (i:=3) sc_sure.nd rfl (Or.inl rfl) (pe_call Glack hr rfl mlack klack black .nil pass0 (pa_cons (pv 0) (pa_cons (pv 1) (pa_cons (pe_ix ix_tup (pv 2) pe_int (λ _ _=>rfl)) (pa_cons (pe_ix ix_tup (pv 2) pe_int (λ _ _=>rfl)) pa_nil))))))
  (pss_one (ps_ret (pe_tup (pa_cons pe_str (pa_cons (pv 3) (pa_cons (pe_call Gcov hr rfl mcov kcov bcov .nil pass0 (pa_cons (pv 0) (pa_cons (pv 3) pa_nil))) pa_nil))))))))),?_⟩
 refine⟨_,rfl,x,n,ps,rfl,hx,λ v H1 s1 cv=>?_⟩
 rw[hc] at cv
 obtain⟨y,ev,⟨t,a',f,g1,g2,g3,g4⟩⟩:=cv
 subst ev
 refine⟨_,rfl,y,_,0,_,rfl,rfl,SqT.of g1,at0,_,rfl,t,sa,_,_,rfl,g2,fs.keep s1,_,rfl,?_⟩
 by_cases cc:c.1<sh
 ·rw[decide_eq_true cc]
  obtain⟨m1,m2,m3⟩:=best_edges hc
  refine iteF ⟨_,rfl,_,rfl,_,rfl,y,_,1,_,rfl,rfl,SqT.of g1,at1,_,rfl,y,_,3,_,rfl,rfl,SqT.of g1,at3,x,sa,a',f,n,ps,sh,c.2.1,c.2.2.2,rfl,hx.keep s1,fs.keep s1,g3,g4,m3,psz _ m1,psz _ m2,cov255 hx.ok hc pin (gap cc),λ pa H2 s2 te shp=>?_⟩
  have s12:=s1.trans s2
  refine⟨_,rfl,_,rfl,_,rfl,x,n,ps,pa,_,rfl,hx.keep s12,shp,λ ca H3 s3 hca=>?_⟩
  refine⟨(by show 3<=sizeLine;decide),λ z hz=>?_⟩
  have s4:=same_new hz (.tup [V.str "not",V.ref pa,V.ref ca])
  exact q2 cc z pa ca _ ((s12.trans s3).trans s4) upd_same (shp.keep (s3.trans s4)) ((fr_rsumO shp hx.ok.n12 hca).keep s4) (of_decide_eq_true te)
 ·rw[decide_eq_false cc]
  refine iteT ⟨_,rfl,y,_,0,_,rfl,rfl,SqT.of g1,at0,(by show 2<=sizeLine;decide),λ z hz=>?_⟩
  have s4:=same_new hz (.tup [V.str "sure",V.ref t])
  exact q1 (by grind) z t _ (s1.trans s4) upd_same (g2.keep s4)
noncomputable def wiB (p q:Rat×Rat):Bool:=!decide (p.1<q.1) && !decide (q.2<p.2)
noncomputable def wiL:List (Rat×Rat)->List (Rat×Rat)->Bool
 | p::ps,q::qs=>wiB p q && wiL ps qs
 | _,_=>true
theorem wiL_false:∀ {ps qs:List (Rat×Rat)}{i:Nat}{p q:Rat×Rat},ps[i]? = some p->qs[i]? = some q->wiB p q=false->wiL ps qs=false
 | p0::ps,q0::qs,0,p,q,e1,e2,h=>by
  rw[List.getElem?_cons_zero] at e1 e2
  cases e1;cases e2
  rw[wiL,h,Bool.false_and]
 | p0::ps,q0::qs,i+1,p,q,e1,e2,h=>by
  rw[List.getElem?_cons_succ] at e1 e2
  rw[wiL,wiL_false e1 e2 h,Bool.and_false]
theorem wiL_true:∀ {ps qs:List (Rat×Rat)},(∀ (i:Nat) (p q:Rat×Rat),ps[i]? = some p->qs[i]? = some q->wiB p q=true)->wiL ps qs=true
 | [],_,_=>by simp [wiL]
 | _::_,[],_=>by simp [wiL]
 | p::ps,q::qs,h=>by
  rw[wiL,Bool.and_eq_true]
  exact⟨h 0 p q rfl rfl,wiL_true λ i p' q' e1 e2=>h (i+1) p' q' (by simpa using e1) (by simpa using e2)⟩
theorem wiB_iff {p q:Rat×Rat}:wiB p q=true↔q.1<=p.1/\p.2<=q.2:=by
 unfold wiB
 rw[Bool.and_eq_true,Bool.not_eq_true',Bool.not_eq_true',decide_eq_false_iff_not,decide_eq_false_iff_not]
 constructor
 ·rintro⟨a,b⟩
  exact⟨by grind,by grind⟩
 ·rintro⟨a,b⟩
  exact⟨by grind,by grind⟩
noncomputable def spWith:Sp:=λ vs H Q _=>∃ (x y:Addr) (n:Nat) (ps qs:List (Rat×Rat)),vs = [.ref x,.ref y]/\RuleAt H x n ps/\RuleAt H y n qs/\∀ H',Same H H'->Q (.bl (wiL ps qs)) H'
theorem sc_with:FnScope ["one","other","inner","outer"] ["one","other"] (defScope s_with):=⟨rfl,rfl,rfl,by decide +kernel,rfl,by decide +kernel,by decide +kernel⟩
theorem ok_with {f:Addr}{fd:FuncData} (F:Fun K "is_within" "is_within" s_with f fd) (T:Txt mg) {fund:Addr}{dund:FuncData} (Gund:FnOk P w K mg base CX0 1 fund dund ["one","other"] spUnd) (bund:Binds K dund ["one","other"] []) (kund:PySem.W.keepIn K (.ref fund)=true) (mund:mg "under" = some (.ref fund)):FnOk P w K mg base CX0 2 f fd ["one","other"] spWith:=by
 refine F.ok sc_with (λ vs H Q E h=>?_) (λ cdv A outer s H vs Q E hr h=>?_)
 ·obtain⟨x,y,n,ps,qs,rfl,_⟩:=h
  rfl
 obtain⟨x,y,n,ps,qs,rfl,⟨⟨t,zs,hx,ht,row⟩,ok⟩,⟨⟨t',zs',hy,ht',row'⟩,ok'⟩,q⟩:=h
 refine⟨_,(pss_cons (ps_for PassesOwn.never rfl (pi_zipT rfl T.zip (pa_cons (pe_ix ix_tup (pv 0) pe_int (λ _ _=>rfl)) (pa_cons (pe_ix ix_tup (pv 1) pe_int (λ _ _=>rfl)) pa_nil))) (pg_tup rfl (pgs_cons (pg_name (i:=2) sc_with.nd rfl (Or.inl rfl)) (pgs_cons (pg_name (i:=3) sc_with.nd rfl (Or.inl rfl)) pgs_nil))) (pss_one (ps_if (PW.pt (pw_or (pt_val (pe_call Gund hr rfl mund kund bund .nil pass0 (pa_cons (pe_ix ix_tup (pv 2) pe_int (λ _ _=>rfl)) (pa_cons (pe_ix ix_tup (pv 3) pe_int (λ _ _=>rfl)) pa_nil)))) (pw_or1 (pt_val (pe_call Gund hr rfl mund kund bund .nil pass0 (pa_cons (pe_ix ix_tup (pv 3) pe_int (λ _ _=>rfl)) (pa_cons (pe_ix ix_tup (pv 2) pe_int (λ _ _=>rfl)) pa_nil))))))) (pss_one (ps_ret pe_bl)) pss_nil)))
  (pss_one (ps_ret pe_bl))),?_⟩
 have lz:=row.len
 have lz':=row'.len
 have l1:=ok.len
 have l2:=ok'.len
 refine⟨_,rfl,x,_,1,_,rfl,rfl,SqT.of hx,at1,_,rfl,y,_,1,_,rfl,rfl,SqT.of hy,at1,t,t',rfl,⟨_,SqT.of ht⟩,⟨_,SqT.of ht'⟩,?_⟩
 refine for_zipT (n:=n+1) (xs:=zs) (ys:=zs') (λ i σ H'=>Same H H'/\(∃ v1 v2,σ = [some (.ref x),some (.ref y),v1,v2])/\∀ (j:Nat),j<i->∀ (p q:Rat×Rat),ps[j]? = some p->qs[j]? = some q->wiB p q=true) ⟨Same.refl H,⟨none,none,rfl⟩,λ j hj=>by omega⟩ (by omega) (by omega) (.inl (by omega)) ?_ ?_ ?_
 ·rintro i σ H' hi ⟨sm,_⟩
  exact⟨SqT.of (sm _ _ ht),SqT.of (sm _ _ ht')⟩
 ·rintro i u v U σ H' hi hu hv hU ⟨sm,⟨v1,v2,rfl⟩,hj⟩
  have ep:=List.getElem?_eq_getElem (show i<ps.length by omega)
  have eq:=List.getElem?_eq_getElem (show i<qs.length by omega)
  obtain⟨b,la,ha,f1,f2,f3,f4⟩:=(row.keep sm).get ep
  obtain⟨b',la',ha',g1,g2,g3,g4⟩:=(row'.keep sm).get eq
  rw[hu] at f1
  cases f1
  rw[hv] at g1
  cases g1
  have sU:=same_new hU (.tup [.ref b,.ref b'])
  have f2':=sU _ _ f2
  have g2':=sU _ _ g2
  have smU:=sm.trans sU
  refine⟨U,_,rfl,SqT.of upd_same,rfl,.ref b,[.ref b'],rfl,.ref b',[],rfl,rfl,?_⟩
  refine⟨_,rfl,b,_,0,_,rfl,rfl,SqT.of f2',at0,_,rfl,b',_,0,_,rfl,rfl,SqT.of g2',at0,la,la',_,_,rfl,(f3.keep sU).fr,(g3.keep sU).fr,_,rfl,?_⟩
  by_cases c1:ps[i].1<qs[i].1
  ·rw[decide_eq_true c1]
   refine iteT (iteT ?_)
   have e:wiL ps qs=false:=wiL_false ep eq (by unfold wiB;rw[decide_eq_true c1];rfl)
   have:=q _ smU
   rw[e] at this
   exact this
  ·rw[decide_eq_false c1]
   refine iteF ?_
   refine⟨_,rfl,b',_,1,_,rfl,rfl,SqT.of g2',at1,_,rfl,b,_,1,_,rfl,rfl,SqT.of f2',at1,ha',ha,_,_,rfl,(g4.keep sU).fr,(f4.keep sU).fr,_,rfl,?_⟩
   by_cases c2:qs[i].2<ps[i].2
   ·rw[decide_eq_true c2]
    refine iteT ?_
    have e:wiL ps qs=false:=wiL_false ep eq (by unfold wiB;rw[decide_eq_true c2,Bool.not_true,Bool.and_false])
    have:=q _ smU
    rw[e] at this
    exact this
   ·rw[decide_eq_false c2]
    refine iteF ⟨smU,⟨_,_,rfl⟩,λ j hj' p q' e1 e2=>?_⟩
    by_cases z:j<i
    ·exact hj j z p q' e1 e2
    ·have:j=i:=by omega
     subst this
     rw[ep] at e1
     rw[eq] at e2
     cases e1;cases e2
     unfold wiB
     rw[decide_eq_false c1,decide_eq_false c2]<;>rfl
 ·rintro σ H' ⟨sm,⟨v1,v2,rfl⟩,hj⟩
  have e:wiL ps qs=true:=wiL_true λ i p q' e1 e2=>hj i (by have:=(List.getElem?_eq_some_iff.mp e1).1;omega) p q' e1 e2
  have:=q _ sm
  rw[e] at this
  exact this
noncomputable def thP (p:Rat×Rat):Th:=.tup [.tup [.int p.1.num,.int (p.1.den:Int)],.tup [.int p.2.num,.int (p.2.den:Int)]]
theorem dens_row {H:Hp}:∀ {ps:List (Rat×Rat)}{zs:List V},RowP H ps zs->Dens H (ps.map thP) zs
 | [],_,h=>h
 | _::_,_,⟨a,la,ha,ys,e,h0,h1,h2,h3⟩=>⟨.ref a,ys,e,den2 h0 (den_p h1.ob) (den_p h2.ob),dens_row h3⟩
theorem den_rule {H:Hp}{x:Addr}{n:Nat}{ps:List (Rat×Rat)} (h:RuleAt H x n ps):Den H (.tup [.int (n:Int),.tup (ps.map thP)]) (.ref x):=by
 obtain⟨⟨t,zs,hx,ht,row⟩,_⟩:=h
 exact den2 hx rfl ⟨t,zs,rfl,ht,dens_row row⟩
theorem up_chain {f:Nat->Rat}{n:Nat} (h:∀ k,k+1<=n->f k<=f (k+1)):∀ d i,i+d<=n->f i<=f (i+d)
 | 0,i,_=>Rat.le_refl
 | d+1,i,hd=>by
  have a:=up_chain h d i (by omega)
  have b:=h (i+d) (by omega)
  rw[<-Nat.add_assoc]
  grind
theorem up_range {f:Nat->Rat}{n:Nat} (h:∀ k,k+1<=n->f k<=f (k+1)):Up ((List.range (n+1)).map f):=by
 refine List.pairwise_iff_getElem.mpr λ i j hi hj hij=>?_
 simp only[List.length_map,List.length_range] at hi hj
 rw[List.getElem_map,List.getElem_map,List.getElem_range,List.getElem_range]
 have:=up_chain h (j-i) i (by omega)
 rw[show i+(j-i)=j by omega] at this
 exact this
noncomputable def GoodS (r s:Rat):Prop:=∃ B:Nat,0<B/\B<2^70/\Ov (r.den*B) s
theorem gs_own {r s:Rat}{B:Nat} (h0:0<B) (h1:B<2^70) (h:Ov B s):GoodS r s:=⟨B,h0,h1,h.up (Nat.dvd_mul_left ..)⟩
theorem rq_ov {t b:Int}{B:Nat} (e:b=(B:Int)) (hb:0<b):Ov B (rq t b):=⟨t,by have:=rq_mul20 (t:=t) hb;rw[e] at this ⊢;rw[Rat.intCast_natCast] at this;exact this⟩
theorem rim_pin {H:Hp}{ps:List (Rat×Rat)}{xs:List V} (h:RowP H ps xs):∀ x∈rimL ps,0<=x/\x<=1:=λ x hx=>by
 unfold rimL at hx
 simp only[List.mem_cons,List.mem_flatMap,List.not_mem_nil,or_false] at hx
 rcases hx with rfl | rfl | ⟨p,hp,hx⟩
 ·decide +kernel
 ·decide +kernel
 ·obtain⟨i,hi⟩:=List.mem_iff_getElem?.mp hp
  obtain⟨_,_,_,_,_,f1,f2⟩:=h.get hi
  rcases hx with rfl | rfl
  ·exact⟨f1.lo,f1.hi⟩
  ·exact⟨f2.lo,f2.hi⟩
theorem gap_of {n:Nat} (hn:n<=12) {r s:Rat} (zr:Sz 120 (r.den:Int)) (g:GoodS r s) (lt:r<s):(n:Rat)<=(s-r)*(2:Rat)^255:=by
 obtain⟨B,B0,B1,o⟩:=g
 have o2:=o.sub ((Ov.self r).up (Nat.dvd_mul_right r.den B))
 obtain⟨m,em⟩:=o2
 obtain⟨d0,d1⟩:=den_nat zr
 have W0:0<r.den*B:=Nat.mul_pos d0 B0
 have W1:12*(r.den*B)<=2^255:=by
  have h1:r.den*B<2^120*2^70:=Nat.mul_lt_mul'' d1 B1
  calc 12*(r.den*B)<=2^4*(2^120*2^70):=Nat.mul_le_mul (by decide) (Nat.le_of_lt h1)
   _<=2^255:=by rw[<-Nat.pow_add,<-Nat.pow_add];exact Nat.pow_le_pow_right (by decide) (by decide)
 generalize r.den*B=W at *
 have Wq:(0:Rat)<(W:Rat):=castpos W0
 have mp:(0:Rat)<(m:Rat):=by rw[<-em];exact Rat.mul_pos (by grind) Wq
 have m1 : 1 ≤ m := by have : 0 < m := by exact_mod_cast mp
                       omega
 have mq:(1:Rat)<=(m:Rat):=by exact_mod_cast m1
 have W2:(12:Rat)*(W:Rat)<=(2:Rat)^255:=by exact_mod_cast W1
 have k1:(s-r)*((12:Rat)*(W:Rat))<=(s-r)*(2:Rat)^255:=Rat.mul_le_mul_of_nonneg_left W2 (by grind)
 have n12:(n:Rat)<=12:=by exact_mod_cast hn
 grind
theorem ix_tupY {X:Cx}{xe:Value->Shared->Prop}{pn:List (Addr×Obj)}:IxR (X.tried xe pn) (rIxT X.K):=ix_tup
noncomputable def sqR (p:Rat×Rat):Sq:=(fqR p.1,fqR p.2)
theorem share_r {p:Rat} (h0:0<=p) (h1:p<=1):shareT (ppT (fqR p))=true:=by
 have d1:(1:Int)<=(p.den:Int):=by have:=p.den_pos;omega
 have n0:0<=p.num:=(r_nonneg p).mpr h0
 have n1:p.num<=(p.den:Int):=(r_le1 p).mpr h1
 have g:Int.gcd p.num (p.den:Int)=1:=p.reduced
 show (true && (decide ((1:Int)<=(p.den:Int)) && (decide (0<=p.num) && (decide (p.num<=(p.den:Int)) && decide (Int.gcd p.num (p.den:Int)=1)))))=true
 rw[decide_eq_true d1,decide_eq_true n0,decide_eq_true n1,decide_eq_true g]
 rfl
theorem share_back {p:Rat} (h:shareT (ppT (fqR p))=true):0<=p/\p<=1:=by
 have h':(true && (decide ((1:Int)<=(p.den:Int)) && (decide (0<=p.num) && (decide (p.num<=(p.den:Int)) && decide (Int.gcd p.num (p.den:Int)=1)))))=true:=h
 simp only[Bool.and_eq_true,decide_eq_true_eq] at h'
 exact⟨(r_nonneg p).mp h'.2.2.1,(r_le1 p).mp h'.2.2.2.1⟩
theorem shOf_pp {p:Fq} (h:shareT (ppT p)=true):shOf (ppT p)=some p:=by
 unfold shOf
 rw[if_pos h]
 rfl
noncomputable def Shs (s:Sq):Prop:=shareT (ppT s.1)=true/\shareT (ppT s.2)=true
theorem st2_ss {s:Sq} (h:Shs s):st2 (ssT s)=some s:=by
 show ((shOf (ppT s.1)).bind λ p=>(shOf (ppT s.2)).bind λ q=>some (p,q))=some s
 rw[shOf_pp h.1,shOf_pp h.2]
 rfl
theorem st2_back {s s':Sq} (h:st2 (ssT s)=some s'):Shs s/\s'=s:=by
 have h':((shOf (ppT s.1)).bind λ p=>(shOf (ppT s.2)).bind λ q=>some (p,q))=some s':=h
 cases h1:shareT (ppT s.1) with
 | false=>rw[sh_no h1] at h';cases h'
 | true =>
  cases h2:shareT (ppT s.2) with
  | false=>rw[shOf_pp h1,sh_no h2] at h';cases h'
  | true=>rw[shOf_pp h1,shOf_pp h2] at h';exact⟨⟨h1,h2⟩,(Option.some.inj h').symm⟩
structure IsR (qs:List (Rat×Rat)):Prop where
 inn:∀ p∈qs,0<=p.1/\p.1<=p.2/\p.2<=1
 ris:∀ i p q,qs[i]? = some p->qs[i+1]? = some q->p.1<=q.1/\p.2<=q.2
noncomputable def thL (qs:List (Rat×Rat)):List Th:=(qs.map sqR).map ssT
theorem thL_at {qs:List (Rat×Rat)}{i:Nat}{p:Rat×Rat} (h:qs[i]? = some p):(thL qs)[i]? = some (ssT (sqR p)):=by
 unfold thL
 rw[List.getElem?_map,List.getElem?_map,h]
 rfl
theorem thL_len (qs:List (Rat×Rat)):(thL qs).length=qs.length:=by unfold thL;simp
theorem isr_good {n:Int}{qs:List (Rat×Rat)}{S:Th} (e:seqOf S=some (thL qs)) (h1:1<=n) (h12:n<=12) (hl:(qs.length:Int)=n+1) (h:IsR qs):GoodU (.int n) S n (qs.map sqR) where
 a:=rfl
 seq:=⟨_,e,by
  unfold thL
  rw[List.map_map]
  refine List.map_congr_left λ s hs=>?_
  obtain⟨p,hp,rfl⟩:=List.mem_map.mp hs
  obtain⟨a,b,c⟩:=h.inn p hp
  exact st2_ss ⟨share_r a (by grind),share_r (by grind) c⟩⟩
 n1:=h1
 n12:=h12
 len:=by rw[List.length_map];exact hl
 inn:=λ s hs=>by
  obtain⟨p,hp,rfl⟩:=List.mem_map.mp hs
  obtain⟨a,b,c⟩:=h.inn p hp
  show und2 (fqR p.2) (fqR p.1)=false
  rw[und_r]
  exact decide_eq_false (by grind)
 ris:=λ i s t hs ht=>by
  rw[List.getElem?_map] at hs ht
  cases e1:qs[i]? with
  | none=>rw[e1] at hs;cases hs
  | some p =>
   cases e2:qs[i+1]? with
   | none=>rw[e2] at ht;cases ht
   | some q =>
    rw[e1] at hs
    rw[e2] at ht
    cases hs
    cases ht
    obtain⟨a1,a2⟩:=h.ris i p q e1 e2
    constructor
    ·show und2 (fqR q.1) (fqR p.1)=false
     rw[und_r]
     exact decide_eq_false (by grind)
    ·show und2 (fqR q.2) (fqR p.2)=false
     rw[und_r]
     exact decide_eq_false (by grind)
theorem good_at {A S:Th}{n:Int}{ps:List Sq}{qs:List (Rat×Rat)} (e:seqOf S=some (thL qs)) (g:GoodU A S n ps) {i:Nat}{p:Rat×Rat} (h:qs[i]? = some p):ps[i]? = some (sqR p)/\Shs (sqR p):=by
 obtain⟨ts,e1,e2⟩:=g.seq
 rw[e] at e1
 cases e1
 obtain⟨s,y1,y2⟩:=map_at e2 (thL_at h)
 obtain⟨z1,rfl⟩:=st2_back y2
 exact⟨y1,z1⟩
theorem not_lt_of {p q:Rat} (h:und2 (fqR p) (fqR q)=false):q<=p:=by
 rw[und_r] at h
 have:=of_decide_eq_false h
 grind
theorem good_isr {A S:Th}{n:Int}{ps:List Sq}{qs:List (Rat×Rat)} (e:seqOf S=some (thL qs)) (g:GoodU A S n ps):IsR qs where
 inn:=λ p hp=>by
  obtain⟨i,hi⟩:=List.mem_iff_getElem?.mp hp
  obtain⟨y1,y2,y3⟩:=good_at e g hi
  have:=not_lt_of (g.inn _ (List.mem_of_getElem? y1))
  exact⟨(share_back y2).1,this,(share_back y3).2⟩
 ris:=λ i p q hp hq=>by
  obtain⟨u1,u2⟩:=g.ris i _ _ (good_at e g hp).1 (good_at e g hq).1
  exact⟨not_lt_of u1,not_lt_of u2⟩
theorem good_uq {A S:Th}{n n':Int}{ps ps':List Sq} (g:GoodU A S n ps) (g':GoodU A S n' ps'):n'=n/\ps'=ps:=by
 have e:=g.a.symm.trans g'.a
 injection e with e
 obtain⟨ts,e1,e2⟩:=g.seq
 obtain⟨ts',y1,y2⟩:=g'.seq
 rw[e1] at y1
 cases y1
 exact⟨e.symm,some_inj (y2.symm.trans e2)⟩
noncomputable def SmR (m:Nat) (r:Rat):Prop:=Sz m r.num/\Sz m (r.den:Int)
noncomputable def SmQ (m:Nat) (qs:List (Rat×Rat)):Prop:=∀ p∈qs,SmR m p.1/\SmR m p.2
theorem SmR.mono {m n:Nat}{r:Rat} (h:SmR m r) (k:m<=n):SmR n r:=⟨h.1.mono k,h.2.mono k⟩
theorem SmR.fr {m:Nat}{r:Rat} (h:SmR m r) (k:m<=4400) {H:Hp}{f:Addr} (e:H f=some (.tup [.int r.num,.int (r.den:Int)])):FrA H f r:=⟨e,h.1.mono k,h.2.mono k⟩
theorem SmR.fq {m:Nat}{r:Rat} (h:SmR m r) (k:m<=4400) {H:Hp}{f:Addr} (e:H f=some (.tup [.int r.num,.int (r.den:Int)])):FqA H f r:=⟨_,_,e,rden r,by have:=rsplit r;rw[Rat.intCast_natCast];exact this,h.1.smk (by omega),h.2.smk (by omega)⟩
theorem rq_mul {t b:Int} (hb:0<b):rq t b*(b:Rat)=(t:Rat):=by
 have hq : (b : Rat) ≠ 0 := by intro e; have : b = 0 := by exact_mod_cast e
                               omega
 unfold rq
 grind
theorem SmR.rq {m:Nat}{t b:Int} (hb:0<b) (st:Sz m t) (sb:Sz m b):SmR m (rq t b):=by
 obtain⟨f1,f2⟩:=fr_rat (Int.ne_of_gt hb) (rq_mul hb)
 have:=Sz.fr (Int.ne_of_gt hb) st sb
 rw[f1,f2] at this
 exact this
theorem SmR.plus {r s:Rat} (h:SmR 20 r) (k:SmR 20 s):SmR 60 (r+s):=by
 obtain⟨f1,f2⟩:=fr_plus r s
 have:=Sz.fr (n:=60) (m:=60) (mul_ne (rden r) (rden s)) (((h.1.mul k.2).add (k.1.mul h.2)).mono (by decide)) ((h.2.mul k.2).mono (by decide))
 rw[f1,f2] at this
 exact this
theorem SmR.minus {r s:Rat} (h:SmR 20 r) (k:SmR 20 s):SmR 60 (r-s):=by
 obtain⟨f1,f2⟩:=fr_minus r s
 have:=Sz.fr (n:=60) (m:=60) (mul_ne (rden r) (rden s)) (((h.1.mul k.2).sub (k.1.mul h.2)).mono (by decide)) ((h.2.mul k.2).mono (by decide))
 rw[f1,f2] at this
 exact this
theorem smS_of {S:Th}{qs:List (Rat×Rat)} (e:seqOf S=some (thL qs)) (h:SmQ 60 qs):∀ ts,seqOf S=some ts->∀ t∈ts,∀ s,st2 t=some s->Sm2 s.1/\Sm2 s.2:=λ ts et t ht s hs=>by
 rw[e] at et
 cases et
 obtain⟨u,hu,rfl⟩:=List.mem_map.mp ht
 obtain⟨p,hp,rfl⟩:=List.mem_map.mp hu
 obtain⟨_,rfl⟩:=st2_back hs
 obtain⟨a,b⟩:=h p hp
 exact⟨⟨a.1.smk (by decide),a.2.smk (by decide)⟩,⟨b.1.smk (by decide),b.2.smk (by decide)⟩⟩
theorem set_cut {ws:List V}{k:Nat}{x:V} (h:k<ws.length):ws.take k++[x]++ws.drop (k+1)=ws.set k x:=by
 rw[List.set_eq_take_append_cons_drop,if_pos h]
 simp
theorem cutV_up {ws:List V}{k:Nat} (h:k<=ws.length):cutV ws none (some (k:Int))=ws.take k:=by
 unfold cutV
 rw[HT.sIx_nat,HT.sIx_none,Nat.min_eq_left h]
 rfl
theorem cutV_from {ws:List V}{k:Nat} (h:k<=ws.length):cutV ws (some (k:Int)) none=ws.drop k:=by
 unfold cutV
 rw[HT.sIx_nat,HT.sIx_none,Nat.min_eq_left h,List.take_of_length_le (by simp)]
noncomputable def spWe:Sp:=λ vs H Q _=>∃ (t v b la ha:Addr) (ws:List V) (k:Nat) (e:Str),vs = [.ref t,.int k,.str e,.ref v]/\H t=some (.tup ws)/\ws.length<=30/\ws[k]? = some (.ref b)/\H b=some (.tup [.ref la,.ref ha]) /\
 ∀ p c H',Same H H'->H' p=some (.tup (ws.set k (.ref c)))->H' c=some (.tup (if e = "low" then [.ref v,.ref ha] else [.ref la,.ref v]))->Q (.ref p) H'
theorem sc_we:FnScope ["stretches","k","end","value","stretch","changed"] ["stretches","k","end","value"] (defScope s_we):=⟨rfl,rfl,rfl,by decide +kernel,rfl,by decide +kernel,by decide +kernel⟩
theorem ok_we {f:Addr}{fd:FuncData} (F:Fun K "with_end" "with_end" s_we f fd) (T:Txt mg):FnOk P w K mg base CX0 1 f fd ["stretches","k","end","value"] spWe:=by
 refine F.ok sc_we (λ vs H Q E h=>?_) (λ cdv A outer s H vs Q E hr h=>?_)
 ·obtain⟨t,v,b,la,ha,ws,k,e,rfl,_⟩:=h
  rfl
 obtain⟨t,v,b,la,ha,ws,k,e,rfl,ht,h30,hk,hb,q⟩:=h
 refine⟨_,(pss_cons (ps_set (i:=4) sc_we.nd rfl (Or.inl rfl) (pe_ix ix_tup (pv 0) (pv 1) (λ _ _=>rfl)))
  (pss_cons (ps_set (i:=5) sc_we.nd rfl (Or.inl rfl) (pe_ifExp (pt_cmpR op_eq (pv 2) pe_str (nomark _)) (pe_tup (pa_cons (pv 3) (pa_cons (pe_ix ix_tup (pv 4) pe_int (λ _ _=>rfl)) pa_nil))) (pe_tup (pa_cons (pe_ix ix_tup (pv 4) pe_int (λ _ _=>rfl)) (pa_cons (pv 3) pa_nil)))))
  (pss_one (ps_ret (pe_op op_catU (pe_op op_catU (pe_slice sl_tup (pv 0) po_none (po_some (pv 1))) (pe_tup (pa_cons (pv 5) pa_nil))) (pe_slice sl_tup (pv 0) (po_some (pe_op op_add (pv 1) pe_int)) po_none)))))),?_⟩
 have hkl:=(List.getElem?_eq_some_iff.mp hk).1
 have one:1<=sizeLine:=by decide
 have two:2<=sizeLine:=by decide
 have sz:∀ {m:Nat},m<=40->m<=sizeLine:=λ h=>Nat.le_of_lt (lt40 h)
 have c1:¬ (HT.sIx ws.length 0 none=0/\HT.sIx ws.length ws.length (some (k:Int))=ws.length):=by rw[HT.sIx_nat];omega
 have c2:¬ (HT.sIx ws.length 0 (some ((k:Int)+1))=0/\HT.sIx ws.length ws.length none=ws.length):=by
  rw[show ((k:Int)+1)=((k+1:Nat):Int) from rfl,HT.sIx_nat]
  omega
 have e1:=cutV_up (ws:=ws) (k:=k) (by omega)
 have e2:cutV ws (some ((k:Int)+1)) none=ws.drop (k+1):=cutV_from (ws:=ws) (k:=k+1) (by omega)
 have es:=λ x=>set_cut (x:=x) hkl
 refine⟨_,rfl,_,rfl,t,ws,k,_,rfl,rfl,SqT.of ht,atI_nat hk,?_⟩
 dsimp only
 refine seq_by (λ σ G=>Same H G/\∃ c,σ = [some (.ref t),some (.int k),some (.str e),some (.ref v),some (.ref b),some (.ref c)]/\G c=some (.tup (if e = "low" then [.ref v,.ref ha] else [.ref la,.ref v]))) ?_ ?_
 ·intro M hM
  refine⟨_,rfl,rfl,_,rfl,?_⟩
  refine ite2 (λ d=>?_) (λ d=>?_)
  ·have d':V.str e=V.str "low":=of_decide_eq_true d
   have d2:e = "low":=by injection d'
   refine⟨_,rfl,_,rfl,b,_,1,_,rfl,rfl,SqT.of hb,at1,two,λ c hc=>hM _ _ ⟨same_new hc _,c,rfl,?_⟩⟩
   rw[upd_same,if_pos d2]
  ·have d2:¬ e = "low":=λ z=>d (decide_eq_true (congrArg V.str z))
   refine⟨_,rfl,b,_,0,_,rfl,rfl,SqT.of hb,at0,_,rfl,two,λ c hc=>hM _ _ ⟨same_new hc _,c,rfl,?_⟩⟩
   rw[upd_same,if_neg d2]
 rintro σ G ⟨sG,c,rfl,hc⟩
 have htG:=sG _ _ ht
 refine⟨_,rfl,_,rfl,_,rfl,t,ws,rfl,SqT.of htG,c1,λ p1 h1=>?_⟩
 rw[e1]
 have w1:=same_new h1 (.tup (ws.take k))
 have x1:upd G p1 (.tup (ws.take k)) p1=some (.tup (ws.take k)):=upd_same
 generalize upd G p1 (.tup (ws.take k))=G1 at *
 refine⟨_,rfl,one,λ p2 h2=>?_⟩
 have w2:=same_new h2 (.tup [V.ref c])
 have x2:upd G1 p2 (.tup [V.ref c]) p2=some (.tup [V.ref c]):=upd_same
 generalize upd G1 p2 (.tup [V.ref c])=G2 at *
 have hne:k≠0->ws.take k≠[]:=λ z1 z=>by
  have z2:(ws.take k).length=0:=by rw[z];rfl
  rw[List.length_take] at z2
  omega
 by_cases hk0:k=0
 ·refine .inl ⟨p1,p2,_,rfl,rfl,SqT.of (by rw[w2 _ _ x1,hk0];rfl),SqT.of x2,?_⟩
  refine⟨_,rfl,_,rfl,_,_,rfl,rfl,_,rfl,t,ws,rfl,SqT.of ((w1.trans w2) _ _ htG),c2,λ p4 h4=>?_⟩
  rw[e2]
  have w4:=same_new h4 (.tup (ws.drop (k+1)))
  have x4:upd G2 p4 (.tup (ws.drop (k+1))) p4=some (.tup (ws.drop (k+1))):=upd_same
  generalize upd G2 p4 (.tup (ws.drop (k+1)))=G4 at *
  have x4':=w4 _ _ x2
  refine .inr ⟨p2,p4,[V.ref c],ws.drop (k+1),rfl,rfl,SqT.of x4',SqT.of x4,by simp,sz (by simp;omega),λ z=>?_,λ z p5 h5=>?_⟩
  ·refine q p2 c _ ((sG.trans (w1.trans w2)).trans w4) ?_ (((w1.trans w2).trans w4) _ _ hc)
   rw[x4',<-es,z]<;>simp [hk0]
  ·have w5:=same_new h5 (.tup ([V.ref c]++ws.drop (k+1)))
   refine q p5 c _ (((sG.trans (w1.trans w2)).trans w4).trans w5) ?_ ((((w1.trans w2).trans w4).trans w5) _ _ hc)
   rw[upd_same,<-es]<;>simp [hk0]
 ·refine .inr ⟨p1,p2,_,_,rfl,rfl,SqT.of (w2 _ _ x1),SqT.of x2,(hne hk0),sz (by simp;omega),λ z=>absurd z (by simp),λ _ p3 h3=>?_⟩
  have w3:=same_new h3 (.tup (ws.take k++[V.ref c]))
  have x3:upd G2 p3 (.tup (ws.take k++[V.ref c])) p3=some (.tup (ws.take k++[V.ref c])):=upd_same
  generalize upd G2 p3 (.tup (ws.take k++[V.ref c]))=G3 at *
  refine⟨_,rfl,_,rfl,_,_,rfl,rfl,_,rfl,t,ws,rfl,SqT.of (((w1.trans w2).trans w3) _ _ htG),c2,λ p4 h4=>?_⟩
  rw[e2]
  have w4:=same_new h4 (.tup (ws.drop (k+1)))
  have x4:upd G3 p4 (.tup (ws.drop (k+1))) p4=some (.tup (ws.drop (k+1))):=upd_same
  generalize upd G3 p4 (.tup (ws.drop (k+1)))=G4 at *
  have x4':=w4 _ _ x3
  refine .inr ⟨p3,p4,(ws.take k++[V.ref c]),ws.drop (k+1),rfl,rfl,SqT.of x4',SqT.of x4,by simp,sz (by simp;omega),λ z=>?_,λ z p5 h5=>?_⟩
  ·refine q p3 c _ ((sG.trans ((w1.trans w2).trans w3)).trans w4) ?_ ((((w1.trans w2).trans w3).trans w4) _ _ hc)
   rw[x4',<-es,z]<;>simp
  ·have w5:=same_new h5 (.tup ((ws.take k++[V.ref c])++ws.drop (k+1)))
   refine q p5 c _ (((sG.trans ((w1.trans w2).trans w3)).trans w4).trans w5) ?_ (((((w1.trans w2).trans w3).trans w4).trans w5) _ _ hc)
   rw[upd_same,<-es]<;>simp
theorem dens_set {H:Hp}:∀ {ts:List Th}{xs:List V}{k:Nat}{t:Th}{v:V},Dens H ts xs->Den H t v->Dens H (ts.set k t) (xs.set k v)
 | [],xs,k,t,v,h,d=>by rw[show xs = [] from h];simp [Dens]
 | u::us,xs,0,t,v,⟨y,ys,e,d1,d2⟩,d=>by rw[e];exact⟨v,ys,rfl,d,d2⟩
 | u::us,xs,k+1,t,v,⟨y,ys,e,d1,d2⟩,d=>by rw[e];exact⟨y,ys.set k v,rfl,d1,dens_set d2 d⟩
theorem thL_set {qs:List (Rat×Rat)}{k:Nat}{p:Rat×Rat}:thL (qs.set k p)=(thL qs).set k (ssT (sqR p)):=by
 unfold thL
 rw[List.map_set,List.map_set]
noncomputable def mvP (e:Str) (s:Int) (p:Rat×Rat):Rat×Rat:=if e = "low" then (p.1+rq 1 s,p.2) else (p.1,p.2-rq 1 s)
theorem SmQ.set {qs:List (Rat×Rat)}{k:Nat}{p:Rat×Rat} (h:SmQ 60 qs) (h1:SmR 60 p.1) (h2:SmR 60 p.2):SmQ 60 (qs.set k p):=λ x hx=>by
 rcases List.mem_or_eq_of_mem_set hx with z | z
 ·exact h x z
 ·rw[z];exact⟨h1,h2⟩
noncomputable def spMov:Sp:=λ vs H Q _=>∃ (r t:Addr) (ws:List V) (n s:Int) (k:Nat) (e:Str) (qs:List (Rat×Rat)) (p:Rat×Rat),vs = [.ref r,.int k,.str e,.int s]/\H r=some (.tup [.int n,.ref t])/\H t=some (.tup ws)/\Dens H (thL qs) ws/\1<=n/\n<=12/\(qs.length:Int)=n+1/\qs[k]? = some p/\SmQ 20 qs/\0<s/\Sz 20 s /\
 (IsR (qs.set k (mvP e s p))->∀ f H',Same H H'->Den H' (ruT n ((qs.set k (mvP e s p)).map sqR)) (.ref f)->Q (.ref f) H')/\(¬ IsR (qs.set k (mvP e s p))->∀ H',Same H H'->Q .non H')
theorem sc_mov:FnScope ["rule","k","end","measure","stretch","step","value"] ["rule","k","end","measure"] (defScope s_mov):=⟨rfl,rfl,rfl,by decide +kernel,rfl,by decide +kernel,by decide +kernel⟩
theorem ok_mov {C:CA}{f:Addr}{fd:FuncData} (F:Fun K "moved" "moved" s_mov f fd) (T:Txt mg) (cf:CF K mg C) {ffrac:Addr}{dfrac:FuncData} (Gfrac:FnOk P w K mg base (CXX P w) 6 ffrac dfrac ["top","bottom"] (spFrac C)) (bfrac:Binds K dfrac ["top","bottom"] []) (kfrac:PySem.W.keepIn K (.ref ffrac)=true) (mfrac:mg "fraction" = some (.ref ffrac)) {fplus:Addr}{dplus:FuncData} (Gplus:FnOk P w K mg base CX0 6 fplus dplus ["one","other"] spPlus) (bplus:Binds K dplus ["one","other"] []) (kplus:PySem.W.keepIn K (.ref fplus)=true) (mplus:mg "plus" = some (.ref fplus)) {fminus:Addr}{dminus:FuncData} (Gminus:FnOk P w K mg base CX0 6 fminus dminus ["one","other"] spMinus) (bminus:Binds K dminus ["one","other"] []) (kminus:PySem.W.keepIn K (.ref fminus)=true) (mminus:mg "minus" = some (.ref fminus)) {fruleof:Addr}{druleof:FuncData} (Gruleof:FnOk P w K mg base (CXX P w) 6 fruleof druleof ["n","stretches"] (spRuX C)) (bruleof:Binds K druleof ["n","stretches"] []) (kruleof:PySem.W.keepIn K (.ref fruleof)=true) (mruleof:mg "rule_of" = some (.ref fruleof)) {fwe:Addr}{dwe:FuncData} (Gwe:FnOk P w K mg base CX0 6 fwe dwe ["stretches","k","end","value"] spWe) (bwe:Binds K dwe ["stretches","k","end","value"] []) (kwe:PySem.W.keepIn K (.ref fwe)=true) (mwe:mg "with_end" = some (.ref fwe)):FnOk P w K mg base CX0 7 f fd ["rule","k","end","measure"] spMov:=by
 refine F.ok sc_mov (λ vs H Q E h=>?_) (λ cdv A outer s H vs Q E hr h=>?_)
 ·obtain⟨r,t,ws,n,s,k,e,qs,p,rfl,_⟩:=h
  rfl
 obtain⟨r,t,ws,n,s,k,e,qs,p,rfl,hr1,ht,dd,n1,n12,hl,hp,hsm,s0,ss,q1,q2⟩:=h
 refine⟨_,(pss_cons (ps_set (i:=4) sc_mov.nd rfl (Or.inl rfl) (pe_ix ix_tup (pe_ix ix_tup (pv 0) pe_int (λ _ _=>rfl)) (pv 1) (λ _ _=>rfl)))
  (pss_cons (ps_set (i:=5) sc_mov.nd rfl (Or.inl rfl) (pe_call Gfrac hr rfl mfrac kfrac bfrac .nil passN (pa_cons pe_int (pa_cons (pv 3) pa_nil))))
  (pss_cons (ps_set (i:=6) sc_mov.nd rfl (Or.inl rfl) (pe_ifExp (pt_cmpR op_eq (pv 2) pe_str (nomark _)) (pe_call Gplus hr rfl mplus kplus bplus .nil pass0 (pa_cons (pe_ix ix_tup (pv 4) pe_int (λ _ _=>rfl)) (pa_cons (pv 5) pa_nil))) (pe_call Gminus hr rfl mminus kminus bminus .nil pass0 (pa_cons (pe_ix ix_tup (pv 4) pe_int (λ _ _=>rfl)) (pa_cons (pv 5) pa_nil)))))
  (pss_one (ps_try0 ⟨rfl,rfl,rfl⟩ rfl cf.mNoRule cf.cNoRule (λ xe pn E hp=>(pss_one (ps_ret (pe_callS Gruleof hr rfl mruleof kruleof bruleof .nil hp (pa_cons (pe_ix ix_tupY (pv 0) pe_int (λ _ _=>rfl)) (pa_cons (pe_call Gwe hr rfl mwe kwe bwe .nil pass0 (pa_cons (pe_ix ix_tupY (pv 0) pe_int (λ _ _=>rfl)) (pa_cons (pv 1) (pa_cons (pv 2) (pa_cons (pv 6) pa_nil))))) pa_nil)))))) (λ e oe=>(pss_one (ps_ret pe_non)))))))),?_⟩
 have lw:ws.length=qs.length:=by rw[dd.len,thL_len]
 obtain⟨v,f1,f2⟩:=dd.get (thL_at hp)
 obtain⟨b,la,ha,rfl,hb,hla,hha⟩:=den_ss f2
 have sp:=hsm _ (List.mem_of_getElem? hp)
 refine⟨_,rfl,r,_,1,_,rfl,rfl,SqT.of hr1,at1,_,rfl,t,ws,k,_,rfl,rfl,SqT.of ht,atI_nat f1,?_⟩
 refine⟨_,rfl,?_⟩
 refine⟨_,_,.int 1,.int s,rfl,rfl,rfl,λ a1 b1 e1=>?_,λ e1=>?_⟩
 rotate_left
 ·rw[frOk_yes (Int.ne_of_gt s0)] at e1
  cases e1
 obtain⟨y1,y2,_⟩:=frOk_shape e1
 cases y1
 cases y2
 refine⟨ss.smk (by decide),λ a ha1'=>?_⟩
 have s1:=same_new ha1' (.tup [V.int (frT 1 s),V.int (frB 1 s)])
 have ha1:upd H a (.tup [V.int (frT 1 s),V.int (frB 1 s)]) a=some (.tup [.int (rq 1 s).num,.int ((rq 1 s).den:Int)]):=by
  obtain⟨f1,f2⟩:=fr_rat (Int.ne_of_gt s0) (rq_mul (t:=1) s0)
  rw[upd_same,f1,f2]
 generalize upd H a (.tup [V.int (frT 1 s),V.int (frB 1 s)])=H1 at *
 have sr:SmR 20 (rq 1 s):=SmR.rq s0 (show (1:Int).natAbs<2^20 by decide) ss
 have fs:=sr.fr (by decide) ha1
 dsimp only
 refine seq_by (λ σ G=>Same H G/\∃ x,σ = [some (.ref r),some (.int k),some (.str e),some (.int s),some (.ref b),some (.ref a),some (.ref x)]/\G x=some (.tup [.int (if e = "low" then p.1+rq 1 s else p.2-rq 1 s).num,.int ((if e = "low" then p.1+rq 1 s else p.2-rq 1 s).den:Int)])) ?_ ?_
 ·intro M hM
  refine⟨_,rfl,rfl,_,rfl,?_⟩
  refine ite2 (λ d=>?_) (λ d=>?_)
  ·have d':V.str e=V.str "low":=of_decide_eq_true d
   have d2:e = "low":=by injection d'
   refine⟨_,rfl,b,_,0,_,rfl,rfl,SqT.of (s1 _ _ hb),at0,_,rfl,la,a,p.1,rq 1 s,rfl,sp.1.fr (by decide) (s1 _ _ hla),fs,λ x H2 s2 hx=>hM _ _ ⟨s1.trans s2,x,rfl,?_⟩⟩
   rw[if_pos d2]
   exact hx
  ·have d2:¬ e = "low":=λ z=>d (decide_eq_true (congrArg V.str z))
   refine⟨_,rfl,b,_,1,_,rfl,rfl,SqT.of (s1 _ _ hb),at1,_,rfl,ha,a,p.2,rq 1 s,rfl,sp.2.fr (by decide) (s1 _ _ hha),fs,λ x H2 s2 hx=>hM _ _ ⟨s1.trans s2,x,rfl,?_⟩⟩
   rw[if_neg d2]
   exact hx
 rintro σ G ⟨sG,x,rfl,hx⟩
 have hr1':=sG _ _ hr1
 refine⟨_,rfl,r,_,0,_,rfl,rfl,SqT.of hr1',at0,_,rfl,r,_,1,_,rfl,rfl,SqT.of hr1',at1,_,rfl,_,rfl,_,rfl,t,x,b,la,ha,ws,k,e,rfl,sG _ _ ht,by omega,f1,sG _ _ hb,λ y c H2 s2 hy hc=>?_⟩
 have s02:=sG.trans s2
 have dc:Den H2 (ssT (sqR (mvP e s p))) (.ref c):=by
  unfold mvP
  by_cases d:e = "low"
  ·rw[if_pos d] at hc hx ⊢
   exact den2 hc (den_p (s2 _ _ hx)) (den_p (s02 _ _ hha))
  ·rw[if_neg d] at hc hx ⊢
   exact den2 hc (den_p (s02 _ _ hla)) (den_p (s2 _ _ hx))
 have sm':SmQ 60 (qs.set k (mvP e s p)):=by
  have h60:SmQ 60 qs:=λ x hx=>⟨(hsm x hx).1.mono (by decide),(hsm x hx).2.mono (by decide)⟩
  unfold mvP
  split
  ·exact h60.set (sp.1.plus sr) (sp.2.mono (by decide))
  ·exact h60.set (sp.1.mono (by decide)) (sp.2.minus sr)
 have dS:Den H2 (.tup (thL (qs.set k (mvP e s p)))) (.ref y):=⟨y,_,rfl,hy,by rw[thL_set];exact dens_set (dd.keep s02) dc⟩
 have eS:seqOf (.tup (thL (qs.set k (mvP e s p))))=some (thL (qs.set k (mvP e s p))):=rfl
 refine⟨_,_,.int n,.tup (thL (qs.set k (mvP e s p))),rfl,rfl,dS,smS_of eS sm',λ n' ps' g f H3 s3 df=>?_,λ hb3 H3 s3=>⟨cf.sub,λ x1 oe hn hoe=>?_⟩⟩
 ·have ir:=good_isr eS g
  obtain⟨rfl,rfl⟩:=good_uq g (isr_good eS n1 n12 (by rw[List.length_set];exact hl) ir)
  exact q1 ir f H3 (s02.trans s3) df
 ·exact q2 (λ ir=>hb3 _ _ (isr_good eS n1 n12 (by rw[List.length_set];exact hl) ir)) _ (s02.trans s3)
theorem best_of {n:Nat}{ps':List (Rat×Rat)} (ok':IsRule n ps') {c':Cd} (hc':bestC n (allPc ps')=some c') (pin':∀ x∈rimL ps',0<=x/\x<=1) {v:Rat} (h:∀ r,0<=r->r<=1->v<=rsumO r n (runOf ps' r r)):v<=c'.1:=by
 obtain⟨k,a,b,ea,eb,hcc⟩:=best_at hc'
 obtain⟨i1,i2⟩:=edg_ok (rimL ps')
 have pa:=pin' a ((i2 a).mp (List.mem_of_getElem? ea))
 have pb:=pin' b ((i2 b).mp (List.mem_of_getElem? eb))
 have lt:=(inc_gap i1 ea eb).1
 by_cases cc:v<=c'.1
 ·exact cc
 exfalso
 obtain⟨t,t0,t1,t2⟩:=tiny ok'.n1 (d:=b-a) (g:=v-c'.1) (by grind) (by grind)
 rcases hcc with rfl | rfl
 ·have k1:=(beside_le ok' ea eb pin' (p:=a+t) (by grind) (by grind)).1
  have k2:=h (a+t) (by grind) (by grind)
  have e:(n:Rat)*(a+t-a)=(n:Rat)*t:=by grind
  rw[e] at k1
  have t2':(n:Rat)*t<v-rsumO a n (runOf ps' a b):=t2
  have cc':¬ v<=rsumO a n (runOf ps' a b):=cc
  generalize (n:Rat)*t=z at *
  grind
 ·have k1:=(beside_le ok' ea eb pin' (p:=b-t) (by grind) (by grind)).2
  have k2:=h (b-t) (by grind) (by grind)
  have e:(n:Rat)*(b-(b-t))=(n:Rat)*t:=by grind
  rw[e] at k1
  have t2':(n:Rat)*t<v-rsumO b n (runOf ps' a b):=t2
  generalize (n:Rat)*t=z at *
  grind
theorem isr_pin {ps:List (Rat×Rat)} (h:IsR ps):∀ x∈rimL ps,0<=x/\x<=1:=λ x hx=>by
 unfold rimL at hx
 simp only[List.mem_cons,List.mem_flatMap,List.not_mem_nil,or_false] at hx
 rcases hx with rfl | rfl | ⟨p,hp,hx⟩
 ·decide +kernel
 ·decide +kernel
 ·obtain⟨a,b,c⟩:=h.inn p hp
  rcases hx with rfl | rfl
  ·exact⟨a,by grind⟩
  ·exact⟨by grind,c⟩
theorem pw_next {l:List Rat} (h:∀ i x y,l[i]? = some x->l[i+1]? = some y->x<=y):Up l:=by
 refine List.pairwise_iff_getElem.mpr λ i j hi hj hij=>?_
 obtain⟨d,rfl⟩:∃ d,j=i+d:=⟨j-i,by omega⟩
 clear hij
 induction d with
 | zero=>exact Rat.le_refl
 | succ d ih=>exact Rat.le_trans (ih (by omega)) (h (i+d) _ _ (List.getElem?_eq_getElem (by omega)) (List.getElem?_eq_getElem hj))
theorem isr_rule {n:Nat}{ps:List (Rat×Rat)} (h:IsR ps) (n1:1<=n) (n12:n<=12) (hl:ps.length=n+1):IsRule n ps where
 n1:=n1
 n12:=n12
 len:=hl
 lows:=pw_next λ i x y hx hy=>by
  rw[List.getElem?_map] at hx hy
  cases e1:ps[i]? with
  | none=>rw[e1] at hx;cases hx
  | some p =>
   cases e2:ps[i+1]? with
   | none=>rw[e2] at hy;cases hy
   | some q =>
    rw[e1] at hx
    rw[e2] at hy
    cases hx
    cases hy
    exact (h.ris i p q e1 e2).1
 highs:=pw_next λ i x y hx hy=>by
  rw[List.getElem?_map] at hx hy
  cases e1:ps[i]? with
  | none=>rw[e1] at hx;cases hx
  | some p =>
   cases e2:ps[i+1]? with
   | none=>rw[e2] at hy;cases hy
   | some q =>
    rw[e1] at hx
    rw[e2] at hy
    cases hx
    cases hy
    exact (h.ris i p q e1 e2).2
 le:=λ p hp=>(h.inn p hp).2.1
theorem rule_isr {n:Nat}{ps:List (Rat×Rat)} (h:IsRule n ps) (pin:∀ x∈rimL ps,0<=x/\x<=1):IsR ps where
 inn:=λ p hp=>by
  have m:∀ x,x=p.1∨x=p.2->x∈rimL ps:=λ x hx=>by
   unfold rimL
   simp only[List.mem_cons,List.mem_flatMap,List.not_mem_nil,or_false]
   exact .inr (.inr ⟨p,hp,hx⟩)
  exact⟨(pin _ (m _ (.inl rfl))).1,h.le p hp,(pin _ (m _ (.inr rfl))).2⟩
 ris:=λ i p q hp hq=>⟨h.lows.at (Nat.le_succ i) (by rw[List.getElem?_map,hp];rfl) (by rw[List.getElem?_map,hq];rfl),h.highs.at (Nat.le_succ i) (by rw[List.getElem?_map,hp];rfl) (by rw[List.getElem?_map,hq];rfl)⟩
noncomputable def bst (n:Nat) (ps:List (Rat×Rat)):Rat:=((bestC n (allPc ps)).map (·.1)).getD 0
theorem bst_is {n:Nat}{ps:List (Rat×Rat)}{c:Cd} (h:bestC n (allPc ps)=some c):bst n ps=c.1:=by unfold bst;rw[h];rfl
structure WthQ (ps qs:List (Rat×Rat)):Prop where
 len:qs.length=ps.length
 low:∀ k,(ps.getD k (0,0)).1<=(qs.getD k (0,0)).1
 high:∀ k,(qs.getD k (0,0)).2<=(ps.getD k (0,0)).2
theorem WthQ.refl (ps:List (Rat×Rat)):WthQ ps ps:=⟨rfl,λ _=>Rat.le_refl,λ _=>Rat.le_refl⟩
theorem WthQ.trans {ps qs rs:List (Rat×Rat)} (h:WthQ ps qs) (g:WthQ qs rs):WthQ ps rs:=⟨g.len.trans h.len,λ k=>Rat.le_trans (h.low k) (g.low k),λ k=>Rat.le_trans (g.high k) (h.high k)⟩
theorem at_getQ {l:List (Rat×Rat)}{i:Nat}{a:Rat×Rat} (h:l[i]? = some a):l.getD i (0,0)=a:=by rw[List.getD,h];rfl
theorem getD_setQ {l:List (Rat×Rat)}{j k:Nat}{v:Rat×Rat} (hj:j<l.length):(l.set j v).getD k (0,0)=if k=j then v else l.getD k (0,0):=by
 simp only[List.getD,List.getElem?_set]
 by_cases c:j=k
 ·subst c;simp [hj]
 ·rw[if_neg c,if_neg (Ne.symm c)]
theorem WthQ.best {n:Nat}{ps qs:List (Rat×Rat)} (h:WthQ ps qs) (n1:1<=n) (n12:n<=12) (hl:ps.length=n+1) (ip:IsR ps) (iq:IsR qs):bst n qs<=bst n ps:=by
 obtain⟨c,hc⟩:=bestC_some (n:=n) (allPc_ne ps)
 obtain⟨d,hd⟩:=bestC_some (n:=n) (allPc_ne qs)
 rw[bst_is hc,bst_is hd]
 have lq:qs.length=n+1:=h.len.trans hl
 refine best_of (isr_rule ip n1 n12 hl) hc (isr_pin ip) λ r r0 r1=>?_
 refine Rat.le_trans (best_le (isr_rule iq n1 n12 lq) hd r0 r1 (isr_pin iq)) ?_
 rw[cov_run,cov_run]
 refine cov_in r0 r1 (upto_of ?_ λ k x y e1 e2=>?_) (lower_of ?_ λ k x y e1 e2=>?_)
 ·rw[List.length_map,List.length_map,h.len]
 ·rw[List.getElem?_map] at e1 e2
  cases f1:qs[k]? with
  | none=>rw[f1] at e1;cases e1
  | some p =>
   cases f2:ps[k]? with
   | none=>rw[f2] at e2;cases e2
   | some q =>
    rw[f1] at e1
    rw[f2] at e2
    cases e1
    cases e2
    have:=h.low k
    rw[at_getQ f1,at_getQ f2] at this
    exact this
 ·rw[List.length_map,List.length_map,h.len]
 ·rw[List.getElem?_map] at e1 e2
  cases f1:qs[k]? with
  | none=>rw[f1] at e1;cases e1
  | some p =>
   cases f2:ps[k]? with
   | none=>rw[f2] at e2;cases e2
   | some q =>
    rw[f1] at e1
    rw[f2] at e2
    cases e1
    cases e2
    have:=h.high k
    rw[at_getQ f1,at_getQ f2] at this
    exact this
noncomputable def eS (lo:Bool):Str:=if lo=true then "low" else "high"
noncomputable def mvQ (lo:Bool) (m:Int) (p:Rat×Rat):Rat×Rat:=if lo=true then (p.1+rq 1 m,p.2) else (p.1,p.2-rq 1 m)
theorem mvQ_is (lo:Bool) (m:Int) (p:Rat×Rat):mvP (eS lo) m p=mvQ lo m p:=by
 unfold mvP mvQ eS
 cases lo with
 | true=>rw[if_pos rfl,if_pos rfl,if_pos rfl]
 | false=>rw[if_neg Bool.false_ne_true,if_neg Bool.false_ne_true,if_neg (by decide)]
noncomputable def nxQ (m:Int) (ps:List (Rat×Rat)) (k:Nat) (lo:Bool):List (Rat×Rat):=ps.set k (mvQ lo m (ps.getD k (0,0)))
noncomputable def ShqC (n:Nat) (s:Rat) (m:Int) (ps:List (Rat×Rat)) (k:Nat) (lo:Bool):Prop:=IsR (nxQ m ps k lo)/\s<=bst n (nxQ m ps k lo)
open Classical in
noncomputable def shq (n:Nat) (s:Rat) (m:Int) (ps:List (Rat×Rat)) (k:Nat) (lo:Bool):Option (List (Rat×Rat)):=if ShqC n s m ps k lo then some (nxQ m ps k lo) else none
theorem shq_yes {n:Nat}{s:Rat}{m:Int}{ps:List (Rat×Rat)}{k:Nat}{lo:Bool} (h:ShqC n s m ps k lo):shq n s m ps k lo=some (nxQ m ps k lo):=if_pos h
theorem shq_no {n:Nat}{s:Rat}{m:Int}{ps:List (Rat×Rat)}{k:Nat}{lo:Bool} (h:¬ ShqC n s m ps k lo):shq n s m ps k lo=none:=if_neg h
theorem shq_some {n:Nat}{s:Rat}{m:Int}{ps ps1:List (Rat×Rat)}{k:Nat}{lo:Bool} (h:shq n s m ps k lo=some ps1):ShqC n s m ps k lo/\ps1=nxQ m ps k lo:=by
 by_cases c:ShqC n s m ps k lo
 ·rw[shq_yes c] at h
  cases h
  exact⟨c,rfl⟩
 ·rw[shq_no c] at h;cases h
noncomputable def hiE (m:Nat):List (Nat×Bool):=(List.range m).map λ k=>(k,false)
noncomputable def loE (n m:Nat):List (Nat×Bool):=(List.range m).map λ i=>(n-i,true)
theorem hiE_snoc (m:Nat):hiE (m+1)=hiE m++[(m,false)]:=by unfold hiE;rw[List.range_succ,List.map_append]<;>rfl
theorem loE_snoc (n m:Nat):loE n (m+1)=loE n m++[(n-m,true)]:=by unfold loE;rw[List.range_succ,List.map_append]<;>rfl
noncomputable def eEnds (n:Nat):List (Nat×Bool):=hiE (n+1)++loE n (n+1)
theorem eEnds_le {n:Nat}{p:Nat×Bool} (h:p∈eEnds n):p.1<=n:=by
 unfold eEnds hiE loE at h
 rcases List.mem_append.mp h with h | h
 ·obtain⟨k,hk,rfl⟩:=List.mem_map.mp h
  have:=List.mem_range.mp hk
  show k<=n;omega
 ·obtain⟨k,hk,rfl⟩:=List.mem_map.mp h
  show n-k<=n;omega
inductive RnQ (n:Nat) (s:Rat) (m:Int) (k:Nat) (lo:Bool):List (Rat×Rat)->List (Rat×Rat)->Prop where
 | stop {ps}:shq n s m ps k lo=none->RnQ n s m k lo ps ps
 | step {ps ps1 ps'}:shq n s m ps k lo=some ps1->RnQ n s m k lo ps1 ps'->RnQ n s m k lo ps ps'
noncomputable def RunQ (n:Nat) (s:Rat) (m:Int):List (Nat×Bool)->List (Rat×Rat)->List (Rat×Rat)->Prop
 | [],ps,ps'=>ps'=ps
 | p::r,ps,ps'=>∃ q,RnQ n s m p.1 p.2 ps q/\RunQ n s m r q ps'
theorem RunQ.snoc {n:Nat}{s:Rat}{m:Int}:∀ {l:List (Nat×Bool)}{p:Nat×Bool}{ps q ps':List (Rat×Rat)},RunQ n s m l ps q->RnQ n s m p.1 p.2 q ps'->RunQ n s m (l++[p]) ps ps'
 | [],p,ps,q,ps',h,r=>by
  have h':q=ps:=h
  subst h'
  exact⟨ps',r,rfl⟩
 | _::l,p,ps,q,ps',⟨u,h1,h2⟩,r=>⟨u,h1,h2.snoc r⟩
theorem rq1_pos {m:Int} (hm:0<m):0<rq 1 m/\rq 1 m*(m:Rat)=1:=by
 have e:=rq_mul (t:=1) hm
 have bp:(0:Rat)<(m:Rat):=by exact_mod_cast hm
 have e':rq 1 m*(m:Rat)=1:=by rw[e];rfl
 refine⟨?_,e'⟩
 by_cases c:0<rq 1 m
 ·exact c
 ·exfalso
  have:=Rat.mul_nonneg (show 0<=- rq 1 m by grind) (show 0<=(m:Rat) by grind)
  grind
noncomputable def gapQ (m:Int) (ps:List (Rat×Rat)) (k:Nat):Nat:=((((ps.getD k (0,0)).2-(ps.getD k (0,0)).1)*(m:Rat)).floor+1).toNat
theorem floor_less {x:Rat}:(x-1).floor=x.floor-1:=by
 have a:=Rat.floor_le (a:=x)
 have b:=Rat.lt_floor_add_one x
 have c:((x.floor-1:Int):Rat)<=x-1:=by push_cast;grind
 have d:=Rat.le_floor_iff.mpr c
 have e:=Rat.floor_le (a:=x-1)
 have f:(((x-1).floor+1:Int):Rat)<=x:=by push_cast;grind
 have g:=Rat.le_floor_iff.mpr f
 omega
theorem shq_gap {n:Nat}{s:Rat}{m:Int}{k:Nat}{lo:Bool}{ps ps1:List (Rat×Rat)} (hm:0<m) (hk:k<ps.length) (h:shq n s m ps k lo=some ps1):gapQ m ps1 k<gapQ m ps k:=by
 obtain⟨⟨c2,_⟩,rfl⟩:=shq_some h
 have e:(nxQ m ps k lo).getD k (0,0)=mvQ lo m (ps.getD k (0,0)):=by unfold nxQ;rw[getD_setQ hk,if_pos rfl]
 have mem:(nxQ m ps k lo).getD k (0,0)∈nxQ m ps k lo:=by
  have hl:k<(nxQ m ps k lo).length:=by unfold nxQ;rw[List.length_set];exact hk
  rw[List.getD,List.getElem?_eq_getElem hl]
  exact List.getElem_mem hl
 have le:=(c2.inn _ mem).2.1
 rw[e] at le
 obtain⟨r0,r1⟩:=rq1_pos hm
 unfold gapQ
 rw[e]
 generalize ps.getD k (0,0)=p at *
 have key:((mvQ lo m p).2-(mvQ lo m p).1)*(m:Rat)=(p.2-p.1)*(m:Rat)-1:=by
  unfold mvQ
  cases lo with
  | true=>rw[if_pos rfl];dsimp only;grind
  | false=>rw[if_neg Bool.false_ne_true];dsimp only;grind
 have bp : (0 : Rat) ≤ (m : Rat) := by have : (0 : Rat) < (m : Rat) := by exact_mod_cast hm
                                       grind
 have nn:0<=((mvQ lo m p).2-(mvQ lo m p).1)*(m:Rat):=Rat.mul_nonneg (by grind) bp
 have fl:0<=(((mvQ lo m p).2-(mvQ lo m p).1)*(m:Rat)).floor:=Rat.le_floor_iff.mpr (by simpa using nn)
 rw[key,floor_less] at fl ⊢
 omega
theorem isr_ris {ps:List (Rat×Rat)} (h:IsR ps) {i:Nat} (hi:i+1<ps.length):(ps.getD i (0,0)).1<=(ps.getD (i+1) (0,0)).1/\(ps.getD i (0,0)).2<=(ps.getD (i+1) (0,0)).2:=by
 have e1:=List.getElem?_eq_getElem (show i<ps.length by omega)
 have e2:=List.getElem?_eq_getElem hi
 rw[at_getQ e1,at_getQ e2]
 exact h.ris i _ _ e1 e2
theorem isr_in {ps:List (Rat×Rat)} (h:IsR ps) {i:Nat} (hi:i<ps.length):0<=(ps.getD i (0,0)).1/\(ps.getD i (0,0)).1<=(ps.getD i (0,0)).2/\(ps.getD i (0,0)).2<=1:=by
 have e1:=List.getElem?_eq_getElem hi
 rw[at_getQ e1]
 exact h.inn _ (List.mem_of_getElem? e1)
theorem isr_mk {qs:List (Rat×Rat)} (h1:∀ i,i<qs.length->0<=(qs.getD i (0,0)).1/\(qs.getD i (0,0)).1<=(qs.getD i (0,0)).2/\(qs.getD i (0,0)).2<=1)
  (h2:∀ i,i+1<qs.length->(qs.getD i (0,0)).1<=(qs.getD (i+1) (0,0)).1/\(qs.getD i (0,0)).2<=(qs.getD (i+1) (0,0)).2):IsR qs where
 inn:=λ p hp=>by
  obtain⟨i,hi⟩:=List.mem_iff_getElem?.mp hp
  have:=h1 i (List.getElem?_eq_some_iff.mp hi).1
  rw[at_getQ hi] at this
  exact this
 ris:=λ i a b ha hb=>by
  have:=h2 i (List.getElem?_eq_some_iff.mp hb).1
  rw[at_getQ ha,at_getQ hb] at this
  exact this
theorem isr_set {k:Nat}{ps:List (Rat×Rat)} (ok:IsR ps) (hk:k<ps.length) {p:Rat×Rat}:IsR (ps.set k p)↔(0<=p.1/\p.1<=p.2/\p.2<=1/\(∀ j,j+1=k->(ps.getD j (0,0)).1<=p.1/\(ps.getD j (0,0)).2<=p.2)/\(k+1<ps.length->p.1<=(ps.getD (k+1) (0,0)).1/\p.2<=(ps.getD (k+1) (0,0)).2)):=by
 have ls:(ps.set k p).length=ps.length:=List.length_set ..
 have gk:(ps.set k p).getD k (0,0)=p:=by rw[getD_setQ hk,if_pos rfl]
 have gj:∀ j,j≠k->(ps.set k p).getD j (0,0)=ps.getD j (0,0):=λ j hj=>by rw[getD_setQ hk,if_neg hj]
 constructor
 ·intro c
  have a:=isr_in c (i:=k) (by omega)
  rw[gk] at a
  refine⟨a.1,a.2.1,a.2.2,λ j hj=>?_,λ h=>?_⟩
  ·have b1:=isr_ris c (i:=j) (by omega)
   rw[hj,gk,gj j (by omega)] at b1
   exact b1
  ·have b1:=isr_ris c (i:=k) (by omega)
   rw[gk,gj (k+1) (by omega)] at b1
   exact b1
 ·rintro⟨a1,a2,a3,b,c⟩
  refine isr_mk (λ i hi=>?_) (λ i hi=>?_)
  ·by_cases z:i=k
   ·rw[z,gk];exact⟨a1,a2,a3⟩
   ·rw[gj i z];exact isr_in ok (by omega)
  ·by_cases z:i=k
   ·rw[z,gk,gj (k+1) (by omega)];exact c (by omega)
   ·rw[gj i z]
    by_cases y:i+1=k
    ·rw[y,gk];exact b i y
    ·rw[gj (i+1) y];exact isr_ris ok (by omega)
structure StQ (k:Nat) (lo:Bool) (ps qs:List (Rat×Rat)):Prop where
 wi:WthQ ps qs
 off:∀ j,j≠k->qs.getD j (0,0)=ps.getD j (0,0)
 lows:lo=false->(qs.getD k (0,0)).1=(ps.getD k (0,0)).1
 highs:lo=true->(qs.getD k (0,0)).2=(ps.getD k (0,0)).2
theorem StQ.trans {k:Nat}{lo:Bool}{ps qs rs:List (Rat×Rat)} (h:StQ k lo ps qs) (g:StQ k lo qs rs):StQ k lo ps rs :=
 ⟨h.wi.trans g.wi,λ j hj=>(g.off j hj).trans (h.off j hj),λ z=>(g.lows z).trans (h.lows z),λ z=>(g.highs z).trans (h.highs z)⟩
theorem shq_stp {n:Nat}{s:Rat}{m:Int}{k:Nat}{lo:Bool}{ps qs:List (Rat×Rat)} (hm:0<m) (hk:k<ps.length) (h:shq n s m ps k lo=some qs):StQ k lo ps qs/\IsR qs/\s<=bst n qs:=by
 obtain⟨⟨c2,c3⟩,rfl⟩:=shq_some h
 have r0:=(rq1_pos hm).1
 have gk:(nxQ m ps k lo).getD k (0,0)=mvQ lo m (ps.getD k (0,0)):=by unfold nxQ;rw[getD_setQ hk,if_pos rfl]
 have gj:∀ j,j≠k->(nxQ m ps k lo).getD j (0,0)=ps.getD j (0,0):=λ j hj=>by unfold nxQ;rw[getD_setQ hk,if_neg hj]
 have lw:(ps.getD k (0,0)).1<=(mvQ lo m (ps.getD k (0,0))).1/\(mvQ lo m (ps.getD k (0,0))).2<=(ps.getD k (0,0)).2:=by
  generalize ps.getD k (0,0)=p
  unfold mvQ
  cases lo with
  | true=>rw[if_pos rfl];dsimp only;exact⟨by grind,Rat.le_refl⟩
  | false=>rw[if_neg Bool.false_ne_true];dsimp only;exact⟨Rat.le_refl,by grind⟩
 refine⟨⟨⟨List.length_set ..,λ j=>?_,λ j=>?_⟩,gj,λ z=>by rw[gk,z];rfl,λ z=>by rw[gk,z];rfl⟩,c2,c3⟩
 ·by_cases z:j=k
  ·rw[z,gk];exact lw.1
  ·rw[gj j z];exact Rat.le_refl
 ·by_cases z:j=k
  ·rw[z,gk];exact lw.2
  ·rw[gj j z];exact Rat.le_refl
theorem rnq_stp {n:Nat}{s:Rat}{m:Int}{k:Nat}{lo:Bool}{ps qs:List (Rat×Rat)} (hm:0<m) (h:RnQ n s m k lo ps qs) (ok:IsR ps) (sr:s<=bst n ps) (hk:k<ps.length):StQ k lo ps qs/\IsR qs/\s<=bst n qs/\shq n s m qs k lo=none:=by
 induction h with
 | stop e=>exact⟨⟨WthQ.refl _,λ _ _=>rfl,λ _=>rfl,λ _=>rfl⟩,ok,sr,e⟩
 | step e _ ih =>
  obtain⟨a,b,b2⟩:=shq_stp hm hk e
  obtain⟨c,d,d2,f⟩:=ih b b2 (by rw[a.wi.len];exact hk)
  exact⟨a.trans c,d,d2,f⟩
noncomputable def NoHurt (d p:Nat×Bool):Prop:=(d.2=false->p.2=true∨(p.1≠d.1/\p.1+1≠d.1))/\(d.2=true->p.2=true/\p.1≠d.1/\p.1≠d.1+1)
theorem shqc_of {n:Nat}{s:Rat}{m:Int}{k:Nat}{lo:Bool}{ps:List (Rat×Rat)} (h:shq n s m ps k lo=none):¬ ShqC n s m ps k lo:=λ c=>by rw[shq_yes c] at h;cases h
theorem WthQ.set {ps qs:List (Rat×Rat)} (h:WthQ ps qs) {k:Nat} (hk:k<ps.length) {p q:Rat×Rat} (h1:p.1<=q.1) (h2:q.2<=p.2):WthQ (ps.set k p) (qs.set k q):=by
 refine⟨by rw[List.length_set,List.length_set];exact h.len,λ j=>?_,λ j=>?_⟩
 ·rw[getD_setQ hk,getD_setQ (by rw[h.len];exact hk)]
  split
  ·exact h1
  ·exact h.low j
 ·rw[getD_setQ hk,getD_setQ (by rw[h.len];exact hk)]
  split
  ·exact h2
  ·exact h.high j
theorem stuckQ {n:Nat}{s:Rat}{m:Int} (hm:0<m) (n1:1<=n) (n12:n<=12) {d p:Nat×Bool}{ps qs:List (Rat×Rat)} (hl:ps.length=n+1) (ok:IsR ps) (hd:d.1<ps.length) (st:StQ p.1 p.2 ps qs) (okq:IsR qs) (nh:NoHurt d p) (h:shq n s m ps d.1 d.2=none):shq n s m qs d.1 d.2=none:=by
 obtain⟨j,lo⟩:=d
 obtain⟨k,hi⟩:=p
 obtain⟨nh1,nh2⟩:=nh
 dsimp only at *
 refine shq_no λ c=>shqc_of h ?_
 obtain⟨c2,c3⟩:=c
 have lq:=st.wi.len
 have hdq:j<qs.length:=by omega
 have c2':=c2
 unfold nxQ at c2'
 obtain⟨b0,b1,b2,b3,b4⟩:=(isr_set okq hdq).mp c2'
 have lo1:=st.wi.low j
 have hi1:=st.wi.high j
 have okj:=isr_in ok hd
 have r0:=(rq1_pos hm).1
 have fin:∀ (w:WthQ (nxQ m ps j lo) (nxQ m qs j lo)) (i:IsR (nxQ m ps j lo)),ShqC n s m ps j lo:=λ w i=>⟨i,Rat.le_trans c3 (w.best n1 n12 (by unfold nxQ;rw[List.length_set];exact hl) i c2)⟩
 cases lo with
 | false =>
  have same:∀ i,(i=j∨i+1=j)->(qs.getD i (0,0)).2=(ps.getD i (0,0)).2:=λ i hi'=>by
   by_cases z:i=k
   ·rcases nh1 rfl with y | y
    ·rw[z];exact st.highs y
    ·omega
   ·rw[st.off i z]
  have ej:=same j (.inl rfl)
  unfold mvQ at b0 b1 b2 b3 b4
  rw[if_neg Bool.false_ne_true] at b0 b1 b2 b3 b4
  dsimp only at b0 b1 b2 b3 b4
  refine fin ?_ ?_
  ·unfold nxQ mvQ
   rw[if_neg Bool.false_ne_true,if_neg Bool.false_ne_true]
   exact st.wi.set hd lo1 (by show (qs.getD j (0,0)).2-rq 1 m<=(ps.getD j (0,0)).2-rq 1 m;grind)
  ·unfold nxQ mvQ
   rw[if_neg Bool.false_ne_true]
   refine (isr_set ok hd).mpr ?_
   dsimp only
   refine⟨okj.1,by grind,by grind,λ i hi'=>?_,λ h'=>?_⟩
   ·have x1:=(b3 i hi').2
    have x2:=same i (.inr hi')
    have x3:=isr_ris ok (i:=i) (by omega)
    rw[hi'] at x3
    exact⟨x3.1,by grind⟩
   ·have x3:=isr_ris ok (i:=j) h'
    exact⟨x3.1,by grind⟩
 | true =>
  obtain⟨y1,y2,y3⟩:=nh2 rfl
  have ej:(qs.getD j (0,0)).1=(ps.getD j (0,0)).1:=by rw[st.off j (by omega)]
  have en:(qs.getD (j+1) (0,0)).1=(ps.getD (j+1) (0,0)).1:=by rw[st.off (j+1) (by omega)]
  unfold mvQ at b0 b1 b2 b3 b4
  rw[if_pos rfl] at b0 b1 b2 b3 b4
  dsimp only at b0 b1 b2 b3 b4
  refine fin ?_ ?_
  ·unfold nxQ mvQ
   rw[if_pos rfl,if_pos rfl]
   exact st.wi.set hd (by show (ps.getD j (0,0)).1+rq 1 m<=(qs.getD j (0,0)).1+rq 1 m;grind) hi1
  ·unfold nxQ mvQ
   rw[if_pos rfl]
   refine (isr_set ok hd).mpr ?_
   dsimp only
   refine⟨by grind,by grind,okj.2.2,λ i hi'=>?_,λ h'=>?_⟩
   ·have x1:=isr_ris ok (i:=i) (by omega)
    rw[hi'] at x1
    exact⟨by grind,x1.2⟩
   ·have x1:=(b4 (by omega)).1
    have x3:=isr_ris ok (i:=j) h'
    exact⟨by grind,x3.2⟩
theorem run_tightQ {n:Nat}{s:Rat}{m:Int} (hm:0<m) (n1:1<=n) (n12:n<=12):∀ (l:List (Nat×Bool)) (done:List (Nat×Bool)) (ps qs:List (Rat×Rat)),RunQ n s m l ps qs->IsR ps->s<=bst n ps->ps.length=n+1->(∀ p∈l,p.1<=n)->(∀ d∈done,d.1<=n/\shq n s m ps d.1 d.2=none)->(∀ d∈done,∀ p∈l,NoHurt d p)->l.Pairwise NoHurt ->
  (∀ d∈done++l,shq n s m qs d.1 d.2=none)/\IsR qs/\s<=bst n qs/\WthQ ps qs
 | [],done,ps,qs,h,ok,sr,_,_,hd,_,_=>by
  have e:qs=ps:=h
  subst e
  exact⟨λ d hd'=>(hd d (by simpa using hd')).2,ok,sr,WthQ.refl _⟩
 | p::l,done,ps,qs,⟨r,h1,h2⟩,ok,sr,hl,hp,hd,hn,pw=>by
  have p1:=hp p (.head _)
  obtain⟨st,okr,srr,nr⟩:=rnq_stp hm h1 ok sr (by omega)
  obtain⟨pw1,pw2⟩:=List.pairwise_cons.mp pw
  obtain⟨a,b,b2,c⟩:=run_tightQ hm n1 n12 l (done++[p]) r qs h2 okr srr (st.wi.len.trans hl) (λ q hq=>hp q (.tail _ hq)) (λ d hd'=>by
   rcases List.mem_append.mp hd' with z | z
   ·exact⟨(hd d z).1,stuckQ hm n1 n12 hl ok (by have:=(hd d z).1;omega) st okr (hn d z p (.head _)) (hd d z).2⟩
   ·rw[List.mem_singleton.mp z];exact⟨p1,nr⟩) (λ d hd' q hq=>by
   rcases List.mem_append.mp hd' with z | z
   ·exact hn d z q (.tail _ hq)
   ·rw[List.mem_singleton.mp z];exact pw1 q hq) pw2
  refine⟨λ d hd'=>a d ?_,b,b2,st.wi.trans c⟩
  rw[List.append_assoc]
  exact hd'
theorem eEnds_pw (n:Nat):(eEnds n).Pairwise NoHurt:=by
 unfold eEnds hiE loE
 refine List.pairwise_append.mpr ⟨?_,?_,λ a ha b hb=>?_⟩
 ·refine List.pairwise_map.mpr (List.pairwise_lt_range.imp λ {a b} h=>⟨λ _=>.inr ⟨?_,?_⟩,λ z=>by cases z⟩)
  ·show b≠a;omega
  ·show b+1≠a;omega
 ·refine List.pairwise_map.mpr (List.Pairwise.imp_of_mem (λ {a b} ha hb h=>⟨(λ z=>by cases z),λ _=>⟨rfl,?_,?_⟩⟩) List.pairwise_lt_range)
  ·have:=List.mem_range.mp hb
   show n-b≠n-a
   omega
  ·show n-b≠n-a+1
   omega
 ·obtain⟨i,_,rfl⟩:=List.mem_map.mp ha
  obtain⟨k,_,rfl⟩:=List.mem_map.mp hb
  exact⟨λ _=>.inl rfl,λ z=>by cases z⟩
theorem eEnds_has {n k:Nat} (hk:k<=n) (lo:Bool):(k,lo)∈eEnds n:=by
 unfold eEnds hiE loE
 cases lo with
 | false=>exact List.mem_append_left _ (List.mem_map.mpr ⟨k,List.mem_range.mpr (by omega),rfl⟩)
 | true=>exact List.mem_append_right _ (List.mem_map.mpr ⟨n-k,List.mem_range.mpr (by omega),by show (n-(n-k),true)=(k,true);congr 1;omega⟩)
theorem madeQ {n:Nat}{s:Rat}{m:Int} (hm:0<m) (n1:1<=n) (n12:n<=12) {ps qs:List (Rat×Rat)} (h:RunQ n s m (eEnds n) ps qs) (ok:IsR ps) (sr:s<=bst n ps) (hl:ps.length=n+1):(∀ k lo,k<=n->shq n s m qs k lo=none)/\IsR qs/\s<=bst n qs/\WthQ ps qs:=by
 obtain⟨a,b,b2,c⟩:=run_tightQ hm n1 n12 (eEnds n) [] ps qs h ok sr hl (λ p hp=>eEnds_le hp) (λ d hd=>by cases hd) (λ d hd=>by cases hd) (eEnds_pw n)
 exact⟨λ k lo hk=>a (k,lo) (eEnds_has hk lo),b,b2,c⟩
structure Qa (D:Nat) (H:Hp) (x:Addr) (n:Nat) (ps:List (Rat×Rat)):Prop where
 ru:RuleAt H x n ps
 ov:∀ p∈ps,Ov D p.1/\Ov D p.2
theorem Qa.keep {D:Nat}{H H':Hp}{x:Addr}{n:Nat}{ps:List (Rat×Rat)} (h:Qa D H x n ps) (s:Same H H'):Qa D H' x n ps:=⟨h.ru.keep s,h.ov⟩
theorem Shp.map {H H':Hp} (s:∀ b xs,H b=some (.tup xs)->H' b=some (.tup xs)) {a:Addr}{p:Rat} (h:Shp H a p):Shp H' a p:=⟨s _ _ h.ob,h.lo,h.hi,h.sz⟩
theorem FrA.map {H H':Hp} (s:∀ b xs,H b=some (.tup xs)->H' b=some (.tup xs)) {a:Addr}{p:Rat} (h:FrA H a p):FrA H' a p:=⟨s _ _ h.ob,h.st,h.sb⟩
theorem RowP.map {H H':Hp} (s:∀ b xs,H b=some (.tup xs)->H' b=some (.tup xs)):∀ {ps:List (Rat×Rat)}{xs:List V},RowP H ps xs->RowP H' ps xs
 | [],_,h=>h
 | _::_,_,⟨a,la,ha,ys,e,h0,h1,h2,h3⟩=>⟨a,la,ha,ys,e,s _ _ h0,h1.map s,h2.map s,h3.map s⟩
theorem RuleAt.map {H H':Hp} (s:∀ b xs,H b=some (.tup xs)->H' b=some (.tup xs)) {x:Addr}{n:Nat}{ps:List (Rat×Rat)} (h:RuleAt H x n ps):RuleAt H' x n ps:=by
 obtain⟨⟨t,zs,a,b,c⟩,ok⟩:=h
 exact⟨⟨t,zs,s _ _ a,s _ _ b,c.map s⟩,ok⟩
theorem Qa.map {H H':Hp} (s:∀ b xs,H b=some (.tup xs)->H' b=some (.tup xs)) {D:Nat}{x:Addr}{n:Nat}{ps:List (Rat×Rat)} (h:Qa D H x n ps):Qa D H' x n ps:=⟨h.ru.map s,h.ov⟩
theorem thL_is (ps:List (Rat×Rat)):thL ps=ps.map thP:=by
 unfold thL
 rw[List.map_map]
 rfl
theorem rowp_isr {H:Hp}{n:Nat}{ps:List (Rat×Rat)}{zs:List V} (h:RowP H ps zs) (ok:IsRule n ps):IsR ps:=rule_isr ok (rim_pin h)
theorem RuleAt.isr {H:Hp}{x:Addr}{n:Nat}{ps:List (Rat×Rat)} (h:RuleAt H x n ps):IsR ps:=by
 obtain⟨⟨t,zs,a,b,c⟩,ok⟩:=h
 exact rowp_isr c ok
theorem ov_sm {D:Nat} (D0:0<D) (D1:D<=1000000) {r:Rat} (h:Ov D r) (h0:0<=r) (h1:r<=1):SmR 20 r:=by
 have d:=Nat.le_of_dvd D0 h.dvd
 have n0:=(r_nonneg r).mpr h0
 have n1:=(r_le1 r).mpr h1
 have e:(1000000:Nat)<2^20:=by decide
 exact⟨Nat.lt_of_le_of_lt (show r.num.natAbs<=1000000 by omega) e,Nat.lt_of_le_of_lt (show (r.den:Int).natAbs<=1000000 by omega) e⟩
theorem Qa.sm {D:Nat} (D0:0<D) (D1:D<=1000000) {H:Hp}{x:Addr}{n:Nat}{ps:List (Rat×Rat)} (h:Qa D H x n ps):SmQ 20 ps:=λ p hp=>by
 obtain⟨a,b,c⟩:=h.ru.isr.inn p hp
 obtain⟨o1,o2⟩:=h.ov p hp
 exact⟨ov_sm D0 D1 o1 a (by grind),ov_sm D0 D1 o2 (by grind) c⟩
theorem dens_rowp {D:Nat} (D0:0<D) (D1:D<=1000000) {H:Hp}:∀ {ps:List (Rat×Rat)}{zs:List V},Dens H (ps.map thP) zs->(∀ p∈ps,0<=p.1/\p.1<=p.2/\p.2<=1)->(∀ p∈ps,Ov D p.1/\Ov D p.2)->RowP H ps zs
 | [],_,h,_,_=>h
 | p::ps,zs,⟨y,ys,e,d1,d2⟩,h1,h2=>by
  obtain⟨a,la,ha,rfl,hb,hla,hha⟩:=den_ss (s:=sqR p) d1
  obtain⟨a1,a2,a3⟩:=h1 p (.head _)
  obtain⟨o1,o2⟩:=h2 p (.head _)
  exact⟨a,la,ha,ys,e,hb,⟨hla,a1,by grind,(ov_sm D0 D1 o1 a1 (by grind)).2.mono (by decide)⟩,⟨hha,by grind,a3,(ov_sm D0 D1 o2 (by grind) a3).2.mono (by decide)⟩,dens_rowp D0 D1 d2 (λ q hq=>h1 q (.tail _ hq)) λ q hq=>h2 q (.tail _ hq)⟩
theorem qa_of {D:Nat} (D0:0<D) (D1:D<=1000000) {H:Hp}{f:Addr}{n:Nat}{qs:List (Rat×Rat)} (n1:1<=n) (n12:n<=12) (hl:qs.length=n+1) (ir:IsR qs) (ov:∀ p∈qs,Ov D p.1/\Ov D p.2) (d:Den H (ruT (n:Int) (qs.map sqR)) (.ref f)):Qa D H f n qs:=by
 obtain⟨q,xs,e,hq,x1,r1,e1,d1,x2,r2,e2,d2,e3⟩:=d
 cases e
 have d1':x1=V.int n:=d1
 have e3':r2 = []:=e3
 subst e3' e2 e1 d1'
 obtain⟨t,zs,e5,ht,dz⟩:=d2
 subst e5
 have dz':Dens H (qs.map thP) zs:=by rw[<-thL_is];exact dz
 exact⟨⟨⟨t,zs,hq,ht,dens_rowp D0 D1 dz' ir.inn ov⟩,isr_rule ir n1 n12 hl⟩,ov⟩
theorem rq_ovD {D:Nat}{m:Int} (hm:0<m) (h:m.toNat ∣ D):Ov D (rq 1 m):=by
 have e:=(rq1_pos hm).2
 refine Ov.up (A:=m.toNat) ⟨1,?_⟩ h
 have z:((m.toNat:Nat):Rat)=(m:Rat):=by
  have:((m.toNat:Nat):Int)=m:=by omega
  rw[<-Rat.intCast_natCast,this]
 rw[z,e]
 rfl
theorem nxQ_ov {D:Nat}{m:Int} (hm:0<m) (h:m.toNat ∣ D) {ps:List (Rat×Rat)}{k:Nat}{lo:Bool} (hk:k<ps.length) (ov:∀ p∈ps,Ov D p.1/\Ov D p.2):∀ p∈nxQ m ps k lo,Ov D p.1/\Ov D p.2:=λ p hp=>by
 unfold nxQ at hp
 rcases List.mem_or_eq_of_mem_set hp with z | z
 ·exact ov p z
 ·have mem:ps.getD k (0,0)∈ps:=by rw[List.getD,List.getElem?_eq_getElem hk];exact List.getElem_mem hk
  obtain⟨o1,o2⟩:=ov _ mem
  have o3:=rq_ovD hm h
  rw[z]
  unfold mvQ
  cases lo with
  | true=>rw[if_pos rfl];exact⟨o1.add o3,o2⟩
  | false=>rw[if_neg Bool.false_ne_true];exact⟨o1,o2.sub o3⟩
noncomputable def ShW (D:Nat) (H:Hp) (n:Nat):Option (List (Rat×Rat))->V->Prop
 | none,v=>v=.non
 | some ps,v=>∃ y,v=.ref y/\Qa D H y n ps
noncomputable def spSwm:Sp:=λ vs H Q _=>∃ (x a:Addr) (D n k:Nat) (m:Int) (s:Rat) (ps:List (Rat×Rat)) (lo:Bool),vs = [.ref x,.int k,.str (eS lo),.ref a,.int m]/\Qa D H x n ps/\k<=n/\FrA H a s/\0<m/\m<=1000/\m.toNat ∣ D/\0<D/\D<=1000000 /\
 ∀ v H',Same H H'->ShW D H' n (shq n s m ps k lo) v->Q v H'
theorem sc_swm:FnScope ["rule","k","end","share","measure","shorter"] ["rule","k","end","share","measure"] (defScope s_swm):=⟨rfl,rfl,rfl,by decide +kernel,rfl,by decide +kernel,by decide +kernel⟩
theorem ok_swm {f:Addr}{fd:FuncData} (F:Fun K "sure_when_moved" "sure_when_moved" s_swm f fd) (T:Txt mg) {fmov:Addr}{dmov:FuncData} (Gmov:FnOk P w K mg base CX0 9 fmov dmov ["rule","k","end","measure"] spMov) (bmov:Binds K dmov ["rule","k","end","measure"] []) (kmov:PySem.W.keepIn K (.ref fmov)=true) (mmov:mg "moved" = some (.ref fmov)) {fleast:Addr}{dleast:FuncData} (Gleast:FnOk P w K mg base CX0 9 fleast dleast ["rule"] spLeast) (bleast:Binds K dleast ["rule"] []) (kleast:PySem.W.keepIn K (.ref fleast)=true) (mleast:mg "least" = some (.ref fleast)) {fund:Addr}{dund:FuncData} (Gund:FnOk P w K mg base CX0 9 fund dund ["one","other"] spUnd) (bund:Binds K dund ["one","other"] []) (kund:PySem.W.keepIn K (.ref fund)=true) (mund:mg "under" = some (.ref fund)):FnOk P w K mg base CX0 10 f fd ["rule","k","end","share","measure"] spSwm:=by
 refine F.ok sc_swm (λ vs H Q E h=>?_) (λ cdv A outer s H vs Q E hr h=>?_)
 ·obtain⟨x,a,D,n,k,m,s,ps,lo,rfl,_⟩:=h
  rfl
 obtain⟨x,a,D,n,k,m,sh,ps,lo,rfl,hx,hk,fs,m0,m1,mD,D0,D1,q⟩:=h
 refine⟨_,(pss_cons (ps_set (i:=5) sc_swm.nd rfl (Or.inl rfl) (pe_call Gmov hr rfl mmov kmov bmov .nil pass0 (pa_cons (pv 0) (pa_cons (pv 1) (pa_cons (pv 2) (pa_cons (pv 4) pa_nil))))))
  (pss_cons (ps_if (PW.pt (pw_or (pt_cmpR op_isN (pv 5) pe_non (nomark _)) (pw_or1 (pt_val (pe_call Gund hr rfl mund kund bund .nil pass0 (pa_cons (pe_ix ix_tup (pe_call Gleast hr rfl mleast kleast bleast .nil pass0 (pa_cons (pv 5) pa_nil)) pe_int (λ _ _=>rfl)) (pa_cons (pv 3) pa_nil))))))) (pss_one (ps_ret pe_non)) pss_nil)
  (pss_one (ps_ret (pv 5))))),?_⟩
 obtain⟨t,zs,ox,ot,row⟩:=hx.ru.ob
 have ok:=hx.ru.ok
 have lp:=ok.len
 have hkl:k<ps.length:=by omega
 have ep:=List.getElem?_eq_getElem hkl
 have gp:ps.getD k (0,0)=ps[k]:=at_getQ ep
 have szm:Sz 20 m:=Nat.lt_of_le_of_lt (show m.natAbs<=1000 by omega) (by decide)
 have enx:ps.set k (mvP (eS lo) m ps[k])=nxQ m ps k lo:=by unfold nxQ;rw[mvQ_is,gp]
 have lnx:(nxQ m ps k lo).length=n+1:=by unfold nxQ;rw[List.length_set];exact lp
 dsimp only
 refine seq_by (λ σ G=>Same H G/\∃ v,σ = [some (.ref x),some (.int k),some (.str (eS lo)),some (.ref a),some (.int m),some v]/\((IsR (nxQ m ps k lo)/\∃ f,v=.ref f/\Qa D G f n (nxQ m ps k lo))∨(¬ IsR (nxQ m ps k lo)/\v=.non))) ?_ ?_
 ·intro M hM
  refine⟨_,rfl,_,rfl,_,rfl,_,rfl,x,t,zs,(n:Int),m,k,eS lo,ps,ps[k],rfl,ox,ot,by rw[thL_is];exact dens_row row,by have:=ok.n1;omega,by have:=ok.n12;omega,by rw[lp];rfl,ep,hx.sm D0 D1,m0,szm,λ ir f H1 s1 df=>?_,λ no H1 s1=>?_⟩
  ·rw[enx] at ir df
   exact hM _ _ ⟨s1,_,rfl,.inl ⟨ir,f,rfl,qa_of D0 D1 ok.n1 ok.n12 lnx ir (nxQ_ov m0 mD hkl hx.ov) df⟩⟩
  ·rw[enx] at no
   exact hM _ _ ⟨s1,_,rfl,.inr ⟨no,rfl⟩⟩
 rintro σ G ⟨sG,v,rfl,⟨ir,f,rfl,hf⟩ | ⟨no,rfl⟩⟩
 ·refine⟨_,rfl,rfl,_,rfl,iteF ⟨_,rfl,f,n,_,rfl,hf.ru,λ c y t' a' H1 hc s1 hy ft sa=>?_⟩⟩
  refine⟨y,_,0,_,rfl,rfl,SqT.of hy,at0,_,rfl,t',a,_,_,rfl,ft,fs.keep (sG.trans s1),_,rfl,?_⟩
  have eb:=bst_is hc
  by_cases cc:c.1<sh
  ·rw[decide_eq_true cc]
   refine iteT (q _ _ (sG.trans s1) ?_)
   rw[shq_no λ z=>by have:=z.2;rw[eb] at this;grind]
   rfl
  ·rw[decide_eq_false cc]
   refine iteF ⟨_,rfl,q _ _ (sG.trans s1) ?_⟩
   rw[shq_yes ⟨ir,by rw[eb];grind⟩]
   exact⟨f,rfl,hf.keep s1⟩
 ·refine⟨_,rfl,rfl,_,rfl,iteT (q _ _ sG ?_)⟩
  rw[shq_no λ z=>no z.1]
  rfl
noncomputable def lamX:Expr:=match (defBody s_tgt).getLast? with
 | some (.Return (some (.Call _ (_::_::l::_) _ _)) _)=>l
 | _=>.Constant (.bool true) 0 ⟨0,0,0,0⟩
noncomputable def lamP:Arguments:=match lamX with
 | .Lambda a _ _ _=>a
 | _=>defArgs s_tgt
noncomputable def lamB:Expr:=match lamX with
 | .Lambda _ b _ _=>b
 | e=>e
noncomputable def lamS:Scope:=match lamX with
 | .Lambda _ _ c _=>c
 | _=>defScope s_tgt
noncomputable def lamO:Pos:=match lamX with
 | .Lambda _ _ _ p=>p
 | _=>⟨0,0,0,0⟩
noncomputable def lamQ:Str:=("tight":Str) ++ ".<locals>." ++ "<lambda>"
noncomputable def pmV (mg:Str->Option Value):Value:=(mg "__name__").getD .none
theorem sc_lam:LamScope ["kept","k","end","measure","share"] ["kept","k","end"] ["measure","share"] lamS where
 kind:=rfl
 co:=rfl
 gen:=rfl
 len:=rfl
 nocell:=by decide +kernel
 par:=by decide +kernel
 fre:=by decide +kernel
 only:=λ x h=>by
  have h':x∈(lamS.names.filter (λ p=>p.2 == .free)).map (·.1):=List.mem_map.mpr ⟨_,List.mem_filter.mpr ⟨PySem.mem_of_lookup h,rfl⟩,rfl⟩
  have e:(lamS.names.filter (λ p=>p.2 == .free)).map (·.1) = [("measure":Str),("share":Str)]:=by decide +kernel
  rw[e] at h'
  exact h'
 look:=λ us hu i x u hx hv=>by
  match us,hu with
  | [u1,u2,u3],_ =>
   match i,hx,hv with
   | 0,hx,hv=>cases hx;cases hv;rfl
   | 1,hx,hv=>cases hx;cases hv;rfl
   | 2,hx,hv=>cases hx;cases hv;rfl
   | i+3,hx,_=>simp at hx
structure Mv where
 f:Addr
 c:Addr
 cS:Addr
 cM:Addr
 a:Addr
 D:Nat
 s:Rat
 m:Int
 ctv:Value
 oS:Obj
 oM:Obj
 nq:cM≠cS
noncomputable def cloL (cM cS:Addr):List (Str×Addr):=[("share",cS),("measure",cM)]
theorem cloL_at {cM cS c:Addr}{y:Str} (h:(cloL cM cS).lookup y=some c):(y = "measure"/\c=cM)∨(y = "share"/\c=cS):=by
 unfold cloL at h
 rw[List.lookup_cons] at h
 cases hb:y == ("share":Str) with
 | true=>rw[hb] at h;cases h;exact .inr ⟨beq_iff_eq.mp hb,rfl⟩
 | false =>
  rw[hb] at h
  have h2:List.lookup y [(("measure":Str),cM)]=some c:=h
  rw[List.lookup_cons] at h2
  cases hb2:y == ("measure":Str) with
  | true=>rw[hb2] at h2;cases h2;exact .inl ⟨beq_iff_eq.mp hb2,rfl⟩
  | false=>rw[hb2] at h2;cases h2
noncomputable def mvObj (mg:Str->Option Value) (π:Mv):Obj:=PySem.W.kla_obj "<lambda>" lamQ lamP lamB lamS (cloL π.cM π.cS) (pmV mg) π.c π.ctv
structure MvAt (mg:Str->Option Value) (π:Mv) (H:Hp):Prop where
 fn:H π.f=some (Fz (mvObj mg π))
 cd:∃ oc,H π.c=some (Fz oc)/\CodeIs oc lamQ
 cs:H π.cS=some (Fz π.oS)
 cm:H π.cM=some (Fz π.oM)
 ds:π.oS.data=.cell (some (.ref π.a))
 dm:∃ t,π.oM.data=.cell (some (.int π.m t))
 sh:FrA H π.a π.s
 m0:0 < π.m
 m1:π.m<=1000
 mD:π.m.toNat ∣ π.D
 D0:0 < π.D
 D1:π.D<=1000000
theorem MvAt.keep {mg:Str->Option Value}{π:Mv}{H H':Hp} (h:MvAt mg π H) (s:Same H H'):MvAt mg π H':=by
 obtain⟨oc,e1,e2⟩:=h.cd
 exact⟨s _ _ h.fn,⟨oc,s _ _ e1,e2⟩,s _ _ h.cs,s _ _ h.cm,h.ds,h.dm,h.sh.keep s,h.m0,h.m1,h.mD,h.D0,h.D1⟩
theorem hid_tup {H:Hp}{c b:Addr}{o:Obj}{xs:List V} (hc:H c=some (Fz o)) (e:H b=some (.tup xs)):hid H c b=some (.tup xs):=by
 rw[hid_ne (λ z=>by rw[z,hc] at e;cases e)];exact e
noncomputable def spMv (mg:Str->Option Value) (π:Mv):Sp:=λ vs H Q _=>∃ (x:Addr) (n k:Nat) (ps:List (Rat×Rat)) (lo:Bool),vs = [.ref x,.int k,.str (eS lo)]/\MvAt mg π H/\Qa π.D H x n ps/\k<=n /\
 ∀ v H',Same H H'->ShW π.D H' n (shq n π.s π.m ps k lo) v->Q v H'
theorem ShW.map {H H':Hp} (s:∀ b xs,H b=some (.tup xs)->H' b=some (.tup xs)) {D n:Nat}:∀ {o:Option (List (Rat×Rat))}{v:V},ShW D H n o v->ShW D H' n o v
 | none,_,h=>h
 | some _,_,⟨y,e,h⟩=>⟨y,e,h.map s⟩
theorem ok_clo (T:Txt mg) {fswm:Addr}{dswm:FuncData} (Gswm:FnOk P w K mg base CX0 11 fswm dswm ["rule","k","end","share","measure"] spSwm) (bswm:Binds K dswm ["rule","k","end","share","measure"] []) (kswm:PySem.W.keepIn K (.ref fswm)=true) (mswm:mg "sure_when_moved" = some (.ref fswm)) (π:Mv):FnOk P w K mg base CX0 12 π.f (PySem.W.kla_fn "<lambda>" lamQ lamP lamB lamS (cloL π.cM π.cS) (pmV mg) (.ref π.c) π.ctv) ["kept","k","end"] (spMv mg π):=by
 have nq:=π.nq
 refine clo_ok (cs:=[π.cM,π.cS]) (ys:=["measure","share"]) (N:=["kept","k","end","measure","share"]) sc_lam ?_ ?_ rfl ?_ (by simp [nq]) (λ vs H Q E h=>?_) (λ A outer s H vs Q E hr h=>?_)
 ·intro i y c h1 h2
  match i,h1,h2 with
  | 0,h1,h2=>cases h1;cases h2;rfl
  | 1,h1,h2=>cases h1;cases h2;rfl
  | i+2,h1,_=>simp at h1
 ·intro y c h
  rcases cloL_at h with ⟨rfl,rfl⟩ | ⟨rfl,rfl⟩
  ·exact⟨List.mem_cons_self,List.mem_cons_self⟩
  ·exact⟨List.mem_cons_of_mem _ List.mem_cons_self,List.mem_cons_of_mem _ List.mem_cons_self⟩
 ·intro x y c h1 h2
  rcases cloL_at h1 with ⟨rfl,e1⟩ | ⟨rfl,e1⟩<;>rcases cloL_at h2 with ⟨rfl,e2⟩ | ⟨rfl,e2⟩
  ·rfl
  ·exact absurd (e1.symm.trans e2) nq
  ·exact absurd (e2.symm.trans e1) nq
  ·rfl
 ·obtain⟨x,n,k,ps,lo,rfl,_⟩:=h
  rfl
 obtain⟨x,n,k,ps,lo,rfl,mv,hx,hk,q⟩:=h
 have hcs:=mv.cs
 have hcm:=mv.cm
 obtain⟨tm,dm⟩:=mv.dm
 refine⟨mv.fn,mv.cd,[π.oM,π.oS],[.int π.m,.ref π.a],rfl,rfl,?_,?_⟩
 ·intro i c o v h1 h2 h3
  match i,h1,h2,h3 with
  | 0,h1,h2,h3=>cases h1;cases h2;cases h3;exact⟨hcm,_,⟨tm,rfl⟩,dm⟩
  | 1,h1,h2,h3=>cases h1;cases h2;cases h3;exact⟨hcs,_,rfl,mv.ds⟩
  | i+2,h1,_,_=>simp at h1
 refine⟨_,(pe_call Gswm hr rfl mswm kswm bswm .nil pass0 (pa_cons (pv 0) (pa_cons (pv 1) (pa_cons (pv 2) (pa_cons (pv 4) (pa_cons (pv 3) pa_nil)))))),?_⟩
 have hcs':hid H π.cM π.cS=some (Fz π.oS):=by rw[hid_ne (Ne.symm nq)];exact hcs
 have tp:∀ b xs,H b=some (.tup xs)->hid (hid H π.cM) π.cS b=some (.tup xs):=λ b xs e=>hid_tup hcs' (hid_tup hcm e)
 have back:∀ H2:Hp,Same (hid (hid H π.cM) π.cS) H2->Same H (upd (upd H2 π.cS (Fz π.oS)) π.cM (Fz π.oM)):=λ H2 sm b o e=>by
  by_cases z:b = π.cM
  ·rw[z,upd_same,<-hcm,<-z,e]
  ·rw[upd_ne z]
   by_cases y:b = π.cS
   ·rw[y,upd_same,<-hcs,<-y,e]
   ·rw[upd_ne y]
    exact sm b o (by rw[hid_ne y,hid_ne z];exact e)
 refine⟨_,rfl,_,rfl,_,rfl,_,rfl,_,rfl,x,π.a,π.D,n,k,π.m,π.s,ps,lo,rfl,hx.map tp,hk,mv.sh.map tp,mv.m0,mv.m1,mv.mD,mv.D0,mv.D1,λ v H2 sm sv fr=>?_⟩
 have n1:H2 π.cM=none:=fr _ List.mem_cons_self
 have n2:H2 π.cS=none:=fr _ (List.mem_cons_of_mem _ List.mem_cons_self)
 refine q v _ (back H2 sm) (sv.map λ b xs e=>?_)
 show upd (upd H2 π.cS (Fz π.oS)) π.cM (Fz π.oM) b=_
 rw[upd_ne (ne_of_none e n1),upd_ne (ne_of_none e n2)]
 exact e
theorem b_clo {mg:Str->Option Value} (π:Mv):Binds K (PySem.W.kla_fn "<lambda>" lamQ lamP lamB lamS (cloL π.cM π.cS) (pmV mg) (.ref π.c) π.ctv) ["kept","k","end"] []:=Binds.all λ us hl=>match us,hl with | [_,_,_],_=>rfl
noncomputable def RowE (H:Hp):List (Nat×Bool)->List V->Prop
 | [],xs=>xs = []
 | p::ps,xs=>∃ a ys,xs=.ref a::ys/\H a=some (.tup [.int (p.1:Nat),.str (eS p.2)])/\RowE H ps ys
theorem RowE.map {H H':Hp} (s:∀ b xs,H b=some (.tup xs)->H' b=some (.tup xs)):∀ {ps:List (Nat×Bool)}{xs:List V},RowE H ps xs->RowE H' ps xs
 | [],_,h=>h
 | _::_,_,⟨a,ys,e,h1,h2⟩=>⟨a,ys,e,s _ _ h1,h2.map s⟩
theorem RowE.len {H:Hp}:∀ {ps:List (Nat×Bool)}{xs:List V},RowE H ps xs->xs.length=ps.length
 | [],_,h=>by rw[show _ = [] from h];rfl
 | _::_,_,⟨a,ys,e,h1,h2⟩=>by rw[e,List.length_cons,List.length_cons,h2.len]
theorem RowE.get {H:Hp}:∀ {ps:List (Nat×Bool)}{xs:List V}{i:Nat}{p:Nat×Bool},RowE H ps xs->ps[i]? = some p->∃ a,xs[i]? = some (.ref a)/\H a=some (.tup [.int (p.1:Nat),.str (eS p.2)])
 | _::_,_,0,p,⟨a,ys,e,h1,h2⟩,q=>by
  rw[List.getElem?_cons_zero] at q;cases q
  exact⟨a,by rw[e];rfl,h1⟩
 | _::_,_,i+1,p,⟨a,ys,e,h1,h2⟩,q=>by
  rw[List.getElem?_cons_succ] at q
  obtain⟨b,f,g⟩:=h2.get q
  exact⟨b,by rw[e,List.getElem?_cons_succ];exact f,g⟩
theorem RowE.app {H:Hp}:∀ {ps qs:List (Nat×Bool)}{xs ys:List V},RowE H ps xs->RowE H qs ys->RowE H (ps++qs) (xs++ys)
 | [],_,_,_,h,k=>by rw[show _ = [] from h];exact k
 | _::_,_,_,_,⟨a,zs,e,h1,h2⟩,k=>by rw[e];exact⟨a,_,rfl,h1,h2.app k⟩
noncomputable def spMt (mg:Str->Option Value):Sp:=λ vs H Q _=>∃ (x:Addr) (n:Nat) (ps:List (Rat×Rat)) (π:Mv),vs = [.ref x,.int n,.ref π.f]/\MvAt mg π H/\Qa π.D H x n ps/\∀ ps' y H',RunQ n π.s π.m (eEnds n) ps ps'->Same H H'->Qa π.D H' y n ps'->Q (.ref y) H'
theorem sc_mt:FnScope ["rule","n","move","ends","k","end","shorter"] ["rule","n","move"] (defScope s_mt):=⟨rfl,rfl,rfl,by decide +kernel,rfl,by decide +kernel,by decide +kernel⟩
theorem ok_mt {f:Addr}{fd:FuncData} (F:Fun K "made_tight" "made_tight" s_mt f fd) (T:Txt mg) {fswm:Addr}{dswm:FuncData} (Gswm:FnOk P w K mg base CX0 11 fswm dswm ["rule","k","end","share","measure"] spSwm) (bswm:Binds K dswm ["rule","k","end","share","measure"] []) (kswm:PySem.W.keepIn K (.ref fswm)=true) (mswm:mg "sure_when_moved" = some (.ref fswm)):FnOk P w K mg base CX0 13 f fd ["rule","n","move"] (spMt mg):=by
 have GV:=λ π:Mv=>ok_clo (base:=base) (P:=P) (w:=w) T Gswm bswm kswm mswm π
 have bV:=λ π:Mv=>b_clo (K:=K) (mg:=mg) π
 refine F.ok sc_mt (λ vs H Q E h=>?_) (λ cdv A outer s H vs Q E hr h=>?_)
 ·obtain⟨x,n,ps,π,rfl,_⟩:=h
  rfl
 obtain⟨x,n,ps,π,rfl,mv,hx,q⟩:=h
 refine⟨_,(pss_cons (ps_set (i:=3) sc_mt.nd rfl (Or.inl rfl) (pe_op op_cat (pe_comp (ts:=[]) rfl ⟨rfl,sub0,rfl,rfl,rfl,rfl,by decide +kernel,rfl,rfl⟩ (pi_range1 rfl T.range (pa_cons (pe_op op_add (pv 1) pe_int) pa_nil)) (λ C s3 H3 fp=>(pe_tup (pa_cons (pv 0) (pa_cons pe_str pa_nil))))) (pe_comp (ts:=[]) rfl ⟨rfl,sub0,rfl,rfl,rfl,rfl,by decide +kernel,rfl,rfl⟩ (pi_range3 rfl T.range (pa_cons (pv 1) (pa_cons (pe_un un_neg pe_int) (pa_cons (pe_un un_neg pe_int) pa_nil)))) (λ C s3 H3 fp=>(pe_tup (pa_cons (pv 0) (pa_cons pe_str pa_nil)))))))
  (pss_cons (ps_for PassesOwn.never rfl (pi_list (pv 3)) (pg_tup rfl (pgs_cons (pg_name (i:=4) sc_mt.nd rfl (Or.inl rfl)) (pgs_cons (pg_name (i:=5) sc_mt.nd rfl (Or.inl rfl)) pgs_nil))) (pss_cons (ps_set (i:=6) sc_mt.nd rfl (Or.inl rfl) (pe_callV GV hr bV (pv 2) (pa_cons (pv 0) (pa_cons (pv 4) (pa_cons (pv 5) pa_nil)))))
   (pss_one (ps_while PassesOwn.never (pt_cmpR op_notN (pv 6) pe_non (nomark _)) (pss_cons (ps_set (i:=0) sc_mt.nd rfl (Or.inl rfl) (pv 6))
    (pss_one (ps_set (i:=6) sc_mt.nd rfl (Or.inl rfl) (pe_callV GV hr bV (pv 2) (pa_cons (pv 0) (pa_cons (pv 4) (pa_cons (pv 5) pa_nil)))))))))))
  (pss_one (ps_ret (pv 0))))),?_⟩
 have n10:=hx.ru.ok.n12
 have n1:=hx.ru.ok.n1
 have en:((n:Int)+1).toNat=n+1:=by omega
 dsimp only
 refine seq_by (λ σ G=>Same H G/\∃ l zs,σ = [some (.ref x),some (.int n),some (.ref π.f),some (.ref l),none,none,none]/\G l=some (.lst zs)/\RowE G (eEnds n) zs) ?_ ?_
 ·intro M hM
  refine⟨_,rfl,_,_,rfl,rfl,_,rfl,by omega,by omega,λ D hD=>?_⟩
  rw[en]
  refine comp_rangeR (λ i ys G=>RowE G (hiE i) ys) hD (Nat.le_of_lt (lt40 (by omega))) rfl ?_ ?_
  ·intro k ys H2 kk hk s2 hD2 row hq
   refine⟨_,rfl,(by show 2<=sizeLine;decide),λ w hw=>?_⟩
   have s3:=same_new hw (.tup [V.int (0+(k:Int)),V.str "high"])
   refine hq (.ref w) _ s3 ?_
   rw[hiE_snoc]
   have row2:RowE (upd H2 w (.tup [V.int (0+(k:Int)),V.str "high"])) (hiE k++[(k,false)]) (ys++[.ref w]):=(row.map λ b xs e=>s3 _ _ e).app ⟨w,[],rfl,by show upd H2 w _ w=_;rw[upd_same,show (0:Int)+(k:Int)=(k:Int) by omega];rfl,rfl⟩
   exact row2.map λ b xs e=>by rw[upd_ne (ne_of e (s3 _ _ hD2) (by intro z;cases z))];exact e
  ·intro ys H2 s2 hD2 ly row
   refine⟨_,rfl,_,rfl,_,rfl,_,_,rfl,⟨by omega,by omega,by decide,by decide⟩,λ D2 hD'=>?_⟩
   rw[show ((n:Int) - -1).toNat=n+1 by omega]
   refine comp_downR (λ i ys G=>RowE G (loE n i) ys) hD' (Nat.le_of_lt (lt40 (by omega))) rfl ?_ ?_
   ·intro k ys2 H3 kk hk s3 hD3 row3 hq
    refine⟨_,rfl,(by show 2<=sizeLine;decide),λ w hw=>?_⟩
    have s4:=same_new hw (.tup [V.int ((n:Int)-(k:Int)),V.str "low"])
    refine hq (.ref w) _ s4 ?_
    rw[loE_snoc]
    have row4:RowE (upd H3 w (.tup [V.int ((n:Int)-(k:Int)),V.str "low"])) (loE n k++[(n-k,true)]) (ys2++[.ref w]):=(row3.map λ b xs e=>s4 _ _ e).app ⟨w,[],rfl,by show upd H3 w _ w=_;rw[upd_same,show (n:Int)-(k:Int)=((n-k:Nat):Int) by omega];rfl,rfl⟩
    exact row4.map λ b xs e=>by rw[upd_ne (ne_of e (s4 _ _ hD3) (by intro z;cases z))];exact e
   ·intro ys2 H3 s3 hD3 ly2 row3
    refine⟨D,D2,_,_,rfl,rfl,s3 _ _ hD2,hD3,Nat.le_of_lt (lt40 (by omega)),λ l hl=>?_⟩
    have s4:=same_new hl (.lst (ys++ys2))
    exact hM _ _ ⟨((s2.trans s3).trans s4),l,_,rfl,upd_same,((row.map λ b xs e=>s3 _ _ e).app row3).map λ b xs e=>s4 _ _ e⟩
 rintro σ G ⟨sG,l,zs,rfl,hl,row⟩
 have lz:=row.len
 refine⟨_,rfl,l,rfl,⟨_,SqL.of hl⟩,?_⟩
 refine for_list (xs:=zs) (λ i σ G'=>Same G G'/\∃ x' ps' v1 v2 v3,σ = [some (.ref x'),some (.int n),some (.ref π.f),some (.ref l),v1,v2,v3]/\Qa π.D G' x' n ps'/\RunQ n π.s π.m ((eEnds n).take i) ps ps') ⟨Same.refl G,x,ps,none,none,none,rfl,hx.keep sG,rfl⟩ ?_ ?_ ?_
 ·rintro i σ G' hi ⟨sm,_⟩
  exact SqL.of (sm _ _ hl)
 ·rintro i z σ G1 hz ⟨sm,x',ps',v1,v2,v3,rfl,hx',run⟩
  have hi:i<(eEnds n).length:=by rw[<-lz];exact (List.getElem?_eq_some_iff.mp hz).1
  have ep:=List.getElem?_eq_getElem hi
  generalize hp:(eEnds n)[i]=p at ep
  obtain⟨k,lo⟩:=p
  have hk:k<=n:=eEnds_le (List.mem_of_getElem? ep)
  obtain⟨a,f1,f2⟩:=row.get ep
  rw[hz] at f1
  cases f1
  have f2':=sm _ _ f2
  have smH:=sG.trans sm
  have mv1:=mv.keep smH
  refine⟨a,_,rfl,SqT.of f2',rfl,.int (k:Nat),_,rfl,.str (eS lo),[],rfl,rfl,?_⟩
  dsimp only
  have call:∀ (G2:Hp) (y:Addr) (qs:List (Rat×Rat)) (v3:Option V) (D:Ends),Same G1 G2->Qa π.D G2 y n qs->(∀ v G3,Same G2 G3->ShW π.D G3 n (shq n π.s π.m qs k lo) v->D.nx [some (.ref y),some (.int n),some (.ref π.f),some (.ref l),some (.int (k:Nat)),some (.str (eS lo)),some v] G3) ->
    tAsg (tCallV Mv.f 2 (spMv mg) (tCons (tVar 0) (tCons (tVar 4) (tCons (tVar 5) tNil)))) (gName 6) D [some (.ref y),some (.int n),some (.ref π.f),some (.ref l),some (.int (k:Nat)),some (.str (eS lo)),v3] G2:=λ G2 y qs v3 D s2 hy hM=>by
   have mv2:=mv1.keep s2
   exact⟨π,rfl,_,rfl,_,rfl,_,rfl,⟨_,_,_,_,mv2.fn⟩,y,n,k,qs,lo,rfl,mv2,hy,hk,λ v G3 s3 sv=>hM v G3 s3 sv⟩
  refine seq_by (λ σ G2=>Same G1 G2/\∃ v,σ = [some (.ref x'),some (.int n),some (.ref π.f),some (.ref l),some (.int (k:Nat)),some (.str (eS lo)),some v]/\ShW π.D G2 n (shq n π.s π.m ps' k lo) v) ?_ ?_
  ·intro M hM
   exact call G1 x' ps' v3 _ (Same.refl _) hx' λ v G3 s3 sv=>hM _ _ ⟨s3,v,rfl,sv⟩
  rintro σ G2 ⟨s2,v,rfl,sv⟩
  refine⟨λ m σ G3=>Same G1 G3/\∃ y qs v,σ = [some (.ref y),some (.int n),some (.ref π.f),some (.ref l),some (.int (k:Nat)),some (.str (eS lo)),some v]/\Qa π.D G3 y n qs/\ShW π.D G3 n (shq n π.s π.m qs k lo) v/\m=gapQ π.m qs k/\∀ r,RnQ n π.s π.m k lo qs r->RnQ n π.s π.m k lo ps' r,⟨_,s2,x',ps',v,rfl,hx'.keep s2,sv,rfl,λ r h=>h⟩,?_⟩
  rintro m σ G3 ⟨s3,y,qs,v,rfl,hy,sv,rfl,hr'⟩
  cases e:shq n π.s π.m qs k lo with
  | none =>
   rw[e] at sv
   have ev:v=.non:=sv
   subst ev
   refine⟨_,rfl,rfl,_,rfl,iteF ⟨sm.trans s3,y,qs,_,_,_,rfl,hy,?_⟩⟩
   rw[List.take_add_one,ep]
   exact RunQ.snoc run (hr' qs (.stop e))
  | some qs1 =>
   rw[e] at sv
   obtain⟨z,rfl,hz'⟩:=sv
   refine⟨_,rfl,rfl,_,rfl,iteT ⟨λ σ G4=>Same G1 G4/\∃ v,σ = [some (.ref z),some (.int n),some (.ref π.f),some (.ref l),some (.int (k:Nat)),some (.str (eS lo)),some v]/\Qa π.D G4 z n qs1/\ShW π.D G4 n (shq n π.s π.m qs1 k lo) v,?_,?_⟩⟩
   ·rintro σ' G4 ⟨s4,v,rfl,hz4,sv4⟩
    exact⟨gapQ π.m qs1 k,shq_gap mv.m0 (by rw[hy.ru.ok.len];omega) e,s4,z,qs1,v,rfl,hz4,sv4,rfl,λ r h=>hr' r (.step e h)⟩
   ·refine⟨_,rfl,?_⟩
    exact call G3 z qs1 _ _ s3 hz' λ v G4 s4 sv4=>⟨s3.trans s4,v,rfl,hz'.keep s4,sv4⟩
 ·rintro σ G1 ⟨sm,x',ps',v1,v2,v3,rfl,hx',run⟩
  rw[List.take_of_length_le (by omega)] at run
  exact⟨_,rfl,q ps' x' G1 run (sG.trans sm) hx'⟩
noncomputable def SameT (T:Addr) (H H':Hp):Prop:=∀ b o,b≠T->H b=some o->H' b=some o
theorem SameT.tup {T:Addr}{H H':Hp} (s:SameT T H H') {tp:Array Value} (hT:H T=some (.tbl tp)):∀ b xs,H b=some (.tup xs)->H' b=some (.tup xs):=λ b xs e=>s b _ (λ z=>by rw[z,hT] at e;cases e) e
noncomputable def TbAt (T:Addr) (H:Hp):Prop:=∃ tp:Array Value,H T=some (.tbl tp)/\TriplesOk tp.toList/\(codeAmong lamO tp.toList=none∨∃ c oc,codeAmong lamO tp.toList=some (.ref c)/\H c=some (Fz oc)/\CodeIs oc lamQ)
theorem TbAt.keep {T:Addr}{H H':Hp} (h:TbAt T H) (s:Same H H'):TbAt T H':=by
 obtain⟨tp,a,b,c⟩:=h
 refine⟨tp,s _ _ a,b,?_⟩
 rcases c with c | ⟨d,oc,e1,e2,e3⟩
 ·exact .inl c
 ·exact .inr ⟨d,oc,e1,s _ _ e2,e3⟩
noncomputable def spIni (CN:Addr):Sp:=λ vs H Q _=>∃ (e t:Addr) (v:V),vs = [.ref e,v]/\H e=some (XN CN e t)/\∀ dx,H dx=none->dx≠e->Q .non (upd (upd H e (XE CN e dx t)) dx (.xd [("at",v)]))
theorem sc_ini:FnScope ["self","at"] ["self","at"] (defScope s_ini):=⟨rfl,rfl,rfl,by decide +kernel,rfl,by decide +kernel,by decide +kernel⟩
theorem ok_ini {C:CA}{f:Addr}{fd:FuncData} (F:Fun K "__init__" "NotSure.__init__" s_ini f fd) (T:Txt mg) (cf:CF K mg C):FnOk P w K mg base CX0 1 f fd ["self","at"] (spIni C.NotSure):=by
 refine F.ok sc_ini (λ vs H Q E h=>?_) (λ cdv A outer s H vs Q E hr h=>?_)
 ·obtain⟨e,t,v,rfl,_⟩:=h
  rfl
 obtain⟨e,t,v,rfl,he,q⟩:=h
 refine⟨_,(pss_one (ps_fldX (pv 0) (pv 1) rfl)),?_⟩
 exact⟨_,rfl,_,rfl,_,e,t,rfl,he,cf.sNotSure,λ dx h1 h2=>q dx h1 h2⟩
theorem Qa.rim {D:Nat} (D0:0<D) (D1:D<=1000000) {H:Hp}{x:Addr}{n:Nat}{ps:List (Rat×Rat)} (h:Qa D H x n ps):∀ y∈rimL ps,Sz 20 (y.den:Int):=λ y hy=>by
 have sm:=h.sm D0 D1
 unfold rimL at hy
 simp only[List.mem_cons,List.mem_flatMap,List.not_mem_nil,or_false] at hy
 rcases hy with rfl | rfl | ⟨p,hp,hx⟩
 ·show ((Rat.den 0:Nat):Int).natAbs<2^20
  decide +kernel
 ·show ((Rat.den 1:Nat):Int).natAbs<2^20
  decide +kernel
 ·rcases hx with rfl | rfl
  ·exact (sm p hp).1.2
  ·exact (sm p hp).2.2
noncomputable def spTgt (C:CA) (T:Addr):Sp:=λ vs H Q E=>∃ (x a:Addr) (D n:Nat) (m:Int) (s:Rat) (ps:List (Rat×Rat)),vs = [.ref x,.ref a,.int m]/\Qa D H x n ps/\FrA H a s/\0<m/\m<=1000/\m.toNat ∣ D/\0<D/\D<=1000000/\TbAt T H /\
 (n<=6->m<=20->bst n ps<s->(n:Rat)<=(s-bst n ps)*(2:Rat)^255) /\
 (6<n∨20<m->∀ H',Same H H'->E (.ref C.TooMuch) none H') /\
 (n<=6->m<=20->s<=bst n ps->∀ ps' y H',RunQ n s m (eEnds n) ps ps'->SameT T H H'->TbAt T H'->Qa D H' y n ps'->Q (.ref y) H') /\
 (n<=6->m<=20->bst n ps<s->∀ dx pa r H',Same H H'->H' dx=some (.xd [("at",.ref pa)])->Shp H' pa r->rsumO r n (runOf ps r r)<s->E (.ref C.NotSure) (some dx) H')
theorem sc_tgt:FnScope ["rule","share","measure","told"] ["rule","share","measure"] (defScope s_tgt):=⟨rfl,rfl,rfl,by decide +kernel,rfl,by decide +kernel,by decide +kernel⟩
theorem ok_tgt {C:CA}{f:Addr}{od an:Option Addr}{osl:Array (Option Value)}{oc kV dc pm cdv ct:Value} (lk:K.lookup f=some ⟨oc,od,.func (PySem.W.fnOf "tight" "tight" (defArgs s_tgt) (defBody s_tgt) (defScope s_tgt) .none kV dc pm an cdv ct),osl⟩) (hcd:PySem.W.codeIn K cdv "tight" = true) {c Tb:Addr} (hcode:cdv=.ref c) (hC:PySem.W.CodeHd base c Tb) (hB:base.BuiltinsAt mg Tb) (T:Txt mg) (cf:CF K mg C) {fsure:Addr}{dsure:FuncData} (Gsure:FnOk P w K mg base CX0 13 fsure dsure ["rule","share"] spSure) (bsure:Binds K dsure ["rule","share"] []) (ksure:PySem.W.keepIn K (.ref fsure)=true) (msure:mg "sure" = some (.ref fsure)) {fmt:Addr}{dmt:FuncData} (Gmt:FnOk P w K mg base CX0 13 fmt dmt ["rule","n","move"] (spMt mg)) (bmt:Binds K dmt ["rule","n","move"] []) (kmt:PySem.W.keepIn K (.ref fmt)=true) (mmt:mg "made_tight" = some (.ref fmt)) {dini:FuncData} (Gini:FnOk P w K mg base CX0 12 C.ini dini ["self","at"] (spIni C.NotSure)) (bini:Binds K dini ["self","at"] []):FnOk P w K mg base (CXD P w) 14 f (PySem.W.fnOf "tight" "tight" (defArgs s_tgt) (defBody s_tgt) (defScope s_tgt) .none kV dc pm an cdv ct) ["rule","share","measure"] (spTgt C Tb):=by
 refine Fun.okCD lk hcd sc_tgt (λ vs H Q E h=>?_) (λ A outer s H vs Q E hr h=>?_)
 ·obtain⟨x,a,D,n,m,sh,ps,rfl,_⟩:=h
  rfl
 obtain⟨x,a,D,n,m,sh,ps,rfl,hx,fs,m0,m1,mD,D0,D1,⟨tp,hT,trip,hno⟩,gap,qT,qS,qN⟩:=h
 refine⟨_,(pss_cons (ps_if (PW.pt (pw_or (pt_cmpR op_gt (pe_ix ix_tup (pv 0) pe_int (λ _ _=>rfl)) pe_int (nomark _)) (pw_or1 (pt_cmpR op_gt (pv 2) pe_int (nomark _))))) (pss_one (ps_raiseD ⟨rfl,rfl,rfl⟩ reachD rfl cf.xTooMuch rfl (pa_cons pe_str pa_nil))) pss_nil)
  (pss_cons (ps_set (i:=3) sc_tgt.nd rfl (Or.inl rfl) (pe_call Gsure hr rfl msure ksure bsure .nil pass0 (pa_cons (pv 0) (pa_cons (pv 1) pa_nil))))
  (pss_cons (ps_if (pt_cmpR op_eq (pe_ix ix_tup (pv 3) pe_int (λ _ _=>rfl)) pe_str (nomark _)) (pss_one (ps_raiseV ⟨rfl,rfl,rfl⟩ reachD rfl (pe_makeX ⟨rfl,rfl,rfl⟩ cf.kNotSure Gini hr rfl cf.mNotSure bini (pa_cons (pe_ix ix_tup (pv 3) pe_int (λ _ _=>rfl)) pa_nil)))) pss_nil)
  (pss_one (ps_ret (pe_callW2 Gmt hr rfl mmt kmt bmt (i:=1) (y:="share") rfl rfl rfl rfl (j:=2) (z:="measure") rfl rfl rfl rfl (by decide) (pa_cons (pv 0) (pa_cons (pe_ix ix_tup (pv 0) pe_int (λ _ _=>rfl)) (pa_cons (pe_lam hcode hC hB rfl rfl) pa_nil))))))))),?_⟩
 obtain⟨t,zs,ox,ot,row⟩:=hx.ru.ob
 have ok:=hx.ru.ok
 have one:1<=sizeLine:=by decide
 refine⟨_,rfl,x,_,0,_,rfl,rfl,SqT.of ox,at0,_,_,rfl,rfl,_,rfl,?_⟩
 by_cases c6:6<n
 ·rw[decide_eq_true (show (6:Int)<(n:Int) by omega)]
  exact iteT ⟨one,qT (.inl c6) H (Same.refl H)⟩
 rw[decide_eq_false (show ¬ (6:Int)<(n:Int) by omega)]
 refine iteF ⟨_,rfl,_,_,rfl,rfl,_,rfl,?_⟩
 by_cases c20:20<m
 ·rw[decide_eq_true c20]
  exact iteT ⟨one,qT (.inr c20) H (Same.refl H)⟩
 rw[decide_eq_false c20]
 have n6:n<=6:=by omega
 have m20:m<=20:=by omega
 obtain⟨c,hc⟩:=bestC_some (n:=n) (allPc_ne ps)
 have eb:=bst_is hc
 refine iteF ⟨_,rfl,_,rfl,x,a,n,ps,sh,c,rfl,hx.ru,fs,hc,rim_pin row,hx.rim D0 D1,(λ z=>by have:=gap n6 m20 (by rw[eb];exact z);rw[eb] at this;exact this),λ le y u G sG hy fu=>?_,λ lt y pa ca G sG hy shp fc ltc=>?_⟩
 rotate_left
 ·refine⟨_,rfl,y,_,0,_,rfl,rfl,SqT.of hy,at0,rfl,_,rfl,?_⟩
  rw[decide_eq_true rfl]
  refine iteT ⟨_,rfl,y,_,1,_,rfl,rfl,SqT.of hy,at1,one,λ e tt he=>⟨e,tt,.ref pa,rfl,upd_same,λ dx hdx ne=>⟨rfl,e,_,_,dx,tt,rfl,?_,cf.kNotSure.ini,?_,?_⟩⟩⟩
  ·rw[upd_ne (Ne.symm ne),upd_same]
  ·show H e=none
   cases q:H e with
   | none=>rfl
   | some u=>rw[sG _ _ q] at he;cases he
  ·have hd1:G dx=none:=by rw[upd_ne ne] at hdx;exact hdx
   have out:∀ b o,G b=some o->hid (upd (upd (upd G e (XN C.NotSure e tt)) e (XE C.NotSure e dx tt)) dx (.xd [("at",.ref pa)])) e b=some o:=λ b o e1=>by
    rw[hid_ne (ne_of_none e1 he),upd_ne (ne_of_none e1 hd1),upd_ne (ne_of_none e1 he),upd_ne (ne_of_none e1 he)]
    exact e1
   exact qN n6 m20 (by rw[eb];exact lt) dx pa _ _ (λ b o eb'=>out b o (sG _ _ eb')) (by rw[hid_ne ne,upd_same]) (shp.map λ b xs e1=>out b _ e1) ltc
 refine⟨_,rfl,y,_,0,_,rfl,rfl,SqT.of hy,at0,rfl,_,rfl,?_⟩
 rw[decide_eq_false (show ¬ V.str "sure" = V.str "not" by decide)]
 have hTG:=sG _ _ hT
 have sure:sh<=bst n ps:=by rw[eb];exact le
 have fin:∀ (H1:Hp) (f' c':Addr) (oc:Obj) (ctv:Value) (tp':Array Value),(∀ b o',b≠Tb->G b=some o'->H1 b=some o')->H1 f'=some (Fz (PySem.W.kla_obj "<lambda>" lamQ lamP lamB lamS (cloL (s.heap.objs.size+1+1) (s.heap.objs.size+1)) (pmV mg) c' ctv))->H1 c'=some (Fz oc)->CodeIs oc lamQ ->
   H1 Tb=some (.tbl tp')->TriplesOk tp'.toList->codeAmong lamO tp'.toList=some (.ref c')->∀ (o1 o2:Obj) (tk:Tok),o1.data=.cell (some (.ref a))->o2.data=.cell (some (.int m tk))->H1 (s.heap.objs.size+1)=none->H1 (s.heap.objs.size+1+1)=none->s.heap.objs.size+1≠s.heap.objs.size+1+1 ->
   spMt mg [.ref x,.int n,.ref f'] (upd (upd H1 (s.heap.objs.size+1) (Fz o1)) (s.heap.objs.size+1+1) (Fz o2)) (λ r H2=>H2 (s.heap.objs.size+1+1)=some (Fz o2)->hid H2 (s.heap.objs.size+1+1) (s.heap.objs.size+1)=some (Fz o1)->Q r (hid (hid H2 (s.heap.objs.size+1+1)) (s.heap.objs.size+1))) E0:=by
  intro H1 f' c' oc ctv tp' on hfn hcc hci hTb trp hit o1 o2 tk hd1 hd2 hn1 hn2 nc
  generalize s.heap.objs.size+1+1=cM at *
  generalize s.heap.objs.size+1=cS at *
  have up:∀ b o',H1 b=some o'->upd (upd H1 cS (Fz o1)) cM (Fz o2) b=some o':=λ b o' e=>by
   rw[upd_ne (ne_of_none e hn2),upd_ne (ne_of_none e hn1)]
   exact e
  have tp1:∀ b xs,G b=some (.tup xs)->upd (upd H1 cS (Fz o1)) cM (Fz o2) b=some (.tup xs):=λ b xs e=>up b _ (on b _ (λ z=>by rw[z,hTG] at e;cases e) e)
  refine⟨x,n,ps,⟨f',c',cS,cM,a,D,sh,m,ctv,o1,o2,Ne.symm nc⟩,rfl,⟨up _ _ hfn,⟨oc,up _ _ hcc,hci⟩,?_,upd_same,hd1,⟨tk,hd2⟩,(fs.keep sG).map tp1,m0,m1,mD,D0,D1⟩,(hx.keep sG).map tp1,λ ps' y' H3 run s3 hy' e3 e4=>?_⟩
  ·show upd (upd H1 cS (Fz o1)) cM (Fz o2) cS=_
   rw[upd_ne nc,upd_same]
  ·have out:∀ b o',H1 b=some o'->hid (hid H3 cM) cS b=some o':=λ b o' e=>by
    rw[hid_ne (ne_of_none e hn1),hid_ne (ne_of_none e hn2)]
    exact s3 _ _ (up b o' e)
   exact qS n6 m20 sure ps' y' _ run (λ b o' nb e=>out b o' (on b _ nb (sG _ _ e))) ⟨tp',out _ _ hTb,trp,.inr ⟨c',oc,hit,out _ _ hcc,hci⟩⟩ (hy'.map λ b xs e=>hid_tup e4 (hid_tup e3 e))
 refine iteF ⟨_,rfl,_,rfl,x,_,0,_,rfl,rfl,SqT.of (sG _ _ ox),at0,?_⟩
 rcases hno with hno | ⟨c0,oc0,hit0,hc0,hci0⟩
 ·refine⟨tp,hTG,trip,.inl ⟨hno,λ f' c' oc ctv hf hc' ne hci=>?_⟩⟩
  refine⟨.ref a,.int m,rfl,rfl,λ o1 u1 o2 u2 ru1 hd1 ru2 hd2 hn1 hn2 nc=>?_⟩
  obtain rfl:u1=Value.ref a:=ru1
  obtain⟨tk,rfl⟩:=(show ∃ t,u2=Value.int m t from ru2)
  have el:(tp ++ #[rawInt lamO.line,rawInt lamO.col,.ref c']).toList=tp.toList++[rawInt lamO.line,rawInt lamO.col,.ref c']:=by simp
  have nTf:Tb≠f':=ne_of_none hTG hf
  have nTc:Tb≠c':=ne_of_none hTG hc'
  refine fin _ f' c' oc ctv (tp ++ #[rawInt lamO.line,rawInt lamO.col,.ref c']) (λ b o' nb e=>?_) upd_same ?_ hci ?_ ?_ ?_ o1 o2 tk hd1 hd2 hn1 hn2 nc
  ·rw[upd_ne (ne_of_none e hf),upd_ne (ne_of_none e hc'),upd_ne nb]
   exact e
  ·rw[upd_ne (Ne.symm ne),upd_same]
  ·rw[upd_ne nTf,upd_ne nTc,upd_same]
   rfl
  ·rw[el];exact TriplesOk_snoc _ _ _ _ trip
  ·rw[el];exact codeAmong_snoc _ trip hno
 ·refine⟨tp,hTG,trip,.inr ⟨c0,hit0,λ f' ctv hf=>?_⟩⟩
  refine⟨.ref a,.int m,rfl,rfl,λ o1 u1 o2 u2 ru1 hd1 ru2 hd2 hn1 hn2 nc=>?_⟩
  obtain rfl:u1=Value.ref a:=ru1
  obtain⟨tk,rfl⟩:=(show ∃ t,u2=Value.int m t from ru2)
  have hcG:=sG _ _ hc0
  refine fin _ f' c0 oc0 ctv tp (λ b o' nb e=>?_) upd_same ?_ hci0 ?_ trip hit0 o1 o2 tk hd1 hd2 hn1 hn2 nc
  ·rw[upd_ne (ne_of_none e hf)];exact e
  ·rw[upd_ne (ne_of_none hcG hf)];exact hcG
  ·rw[upd_ne (ne_of_none hTG hf)];exact hTG
theorem Shp.fq {H:Hp}{a:Addr}{r:Rat} (h:Shp H a r):FqA H a r:=⟨_,_,h.ob,rden r,by have:=rsplit r;rw[Rat.intCast_natCast];exact this,h.sn.smk (by decide),h.sz.smk (by decide)⟩
theorem FrA.fq {H:Hp}{f:Addr}{r:Rat} (h:FrA H f r):FqA H f r:=⟨_,_,h.ob,rden r,by have:=rsplit r;rw[Rat.intCast_natCast];exact this,h.st.smk (by decide),h.sb.smk (by decide)⟩
structure Pq (H:Hp) (f:Addr) (r:Rat):Prop where
 ob:∃ t b:Int,H f=some (.tup [.int t,.int b])/\0<b/\0<=t/\t<=b/\r*(b:Rat)=(t:Rat)/\Sz 300 b
theorem Pq.keep {H H':Hp}{f:Addr}{r:Rat} (h:Pq H f r) (s:Same H H'):Pq H' f r:=by
 obtain⟨t,b,e,h⟩:=h.ob
 exact⟨t,b,s _ _ e,h⟩
theorem Pq.write {H:Hp}{f l:Addr}{r:Rat}{zs ws:List V} (h:Pq H f r) (hl:H l=some (.lst zs)):Pq (upd H l (.lst ws)) f r:=by
 obtain⟨t,b,e,h⟩:=h.ob
 exact⟨t,b,by rw[upd_ne (ne_of e hl (by intro z;cases z))];exact e,h⟩
theorem Pq.fq {H:Hp}{f:Addr}{r:Rat} (h:Pq H f r):FqA H f r:=by
 obtain⟨t,b,e,h1,h2,h3,h4,h5⟩:=h.ob
 exact⟨t,b,e,h1,h4,(sz_le h2 h3 h5).smk (by decide),h5.smk (by decide)⟩
theorem Pq.unit {H:Hp}{f:Addr}{r:Rat} (h:Pq H f r):0<=r/\r<=1:=by
 obtain⟨t,b,e,h1,h2,h3,h4,h5⟩:=h.ob
 have bq:(0:Rat)<(b:Rat):=by exact_mod_cast h1
 have tq:(0:Rat)<=(t:Rat):=by exact_mod_cast h2
 have lq:(t:Rat)<=(b:Rat):=by exact_mod_cast h3
 have n0:0<=r:=nonneg_of bq (by grind)
 have n1:0<=1-r:=nonneg_of bq (by grind)
 exact⟨n0,by grind⟩
theorem Shp.pq {H:Hp}{a:Addr}{r:Rat} (h:Shp H a r):Pq H a r:=⟨_,_,h.ob,rden r,h.num.1,h.num.2,by have:=rsplit r;rw[Rat.intCast_natCast];exact this,h.sz.mono (by decide)⟩
noncomputable def rowV (n:Nat):List Int:=(List.range (n+1)).map λ k=>(binom n k:Int)
theorem rowV_len (n:Nat):(rowV n).length=n+1:=by simp [rowV]
theorem rowV_at {n k:Nat} (h:k<=n):(rowV n).getD k 0=(binom n k:Int):=by
 unfold rowV
 rw[List.getD_eq_getElem?_getD,List.getElem?_map,List.getElem?_range (by omega)]<;>rfl
noncomputable def powV (b:Int) (m:Nat):List Int:=(List.range (m+1)).map λ k=>b^k
theorem powV_len (b:Int) (m:Nat):(powV b m).length=m+1:=by simp [powV]
theorem powV_at {b:Int}{m k:Nat} (h:k<=m):(powV b m).getD k 0=b^k:=by
 unfold powV
 rw[List.getD_eq_getElem?_getD,List.getElem?_map,List.getElem?_range (by omega)]<;>rfl
theorem powV_succ (b:Int) (m:Nat):powV b m++[b^(m+1)]=powV b (m+1):=by
 unfold powV
 rw[List.range_succ (n:=m+1),List.map_append]<;>rfl
noncomputable def spPows:Sp:=λ vs H Q _=>∃ (b:Int) (m:Nat),vs = [.int b,.int m]/\Sz 400 b/\m<=12/\∀ l H',Same H H'->H' l=some (.lst ((powV b m).map V.int))->Q (.ref l) H'
theorem sc_pows:FnScope ["_law_number","_law_many","_law_found","_law_k"] ["_law_number","_law_many"] (defScope s_pows):=⟨rfl,rfl,rfl,by decide +kernel,rfl,by decide +kernel,by decide +kernel⟩
theorem ok_pows {f:Addr}{fd:FuncData} (F:Fun K "_law_powers" "_law_powers" s_pows f fd) (T:Txt mg):FnOk P w K mg base CX0 1 f fd ["_law_number","_law_many"] spPows:=by
 refine F.ok sc_pows (λ vs H Q E h=>?_) (λ cdv A outer s H vs Q E hr h=>?_)
 ·obtain⟨b,m,rfl,_⟩:=h
  rfl
 obtain⟨b,m,rfl,sb,hm,q⟩:=h
 refine⟨_,(pss_cons (ps_set (i:=2) sc_pows.nd rfl (Or.inl rfl) (pe_lst (pa_cons pe_int pa_nil)))
  (pss_cons (ps_for PassesOwn.never rfl (pi_range1 rfl T.range (pa_cons (pv 1) pa_nil)) (pg_name (i:=3) sc_pows.nd rfl (Or.inl rfl)) (pss_one (ps_expr (pe_bm PySem.F.plainAttrs_list PySem.F.slot_list_append PySem.F.type_list_append mt_append (pv 2) (pa_cons (pe_op op_mulK (pe_ix ix_list (pv 2) (pv 3) (λ _ _=>rfl)) (pv 0)) pa_nil)))))
  (pss_one (ps_ret (pv 2))))),?_⟩
 refine⟨(by show 1<=sizeLine;decide),λ l hl=>?_⟩
 refine⟨_,rfl,_,rfl,by omega,by omega,?_⟩
 have em:((m:Int)).toNat=m:=rfl
 rw[em]
 refine for_range (lo:=0) (λ i σ H'=>Same H H'/\∃ v,σ = [some (.int b),some (.int m),some (.ref l),v]/\H' l=some (.lst ((powV b i).map V.int))) ⟨same_new hl _,none,rfl,by rw[upd_same];simp [powV]⟩ ?_ ?_
 ·rintro i σ H1 hi ⟨sm,v,rfl,e⟩
  have len:=powV_len b i
  refine⟨_,rfl,.inl ⟨rfl,_,SqL.of e⟩,_,rfl,_,rfl,l,_,_,_,rfl,rfl,SqL.of e,at_getD (ns:=powV b i) (by omega) (by rw[len];omega),_,rfl,_,_,rfl,rfl,⟨?_,sb.smk (by decide)⟩,l,_,_,rfl,rfl,e,?_,?_⟩
  ·have ei:((0:Int)+(i:Int)).toNat=i:=by omega
   rw[ei,powV_at (Nat.le_refl i)]
   exact (sb.powN i).smk (by omega)
  ·rw[List.length_map,len];unfold sizeLine;omega
  ·refine⟨λ c o ec=>by rw[upd_ne (ne_of_none ec hl)];exact sm c o ec,_,rfl,?_⟩
   have ei:((0:Int)+(i:Int)).toNat=i:=by omega
   rw[upd_same,ei,powV_at (Nat.le_refl i),<-powV_succ,List.map_append,Int.pow_succ]<;>rfl
 ·rintro σ H1 ⟨sm,v,rfl,e⟩
  exact⟨_,rfl,q l H1 sm e⟩
noncomputable def midV (n:Nat):List Int:=(List.range n).map λ j=>(binom n j:Int)+(binom n (j+1):Int)
theorem rowV_mid (n:Nat):[1]++midV n++[1]=rowV (n+1):=by
 unfold rowV midV
 rw[List.range_succ (n:=n+1),List.map_append,List.range_succ_eq_map,List.map_cons,List.map_map]
 simp [b0,bself,bs,Function.comp]
noncomputable def spChs:Sp:=λ vs H Q _=>∃ n:Nat,vs = [.int n]/\n<=12/\∀ l H',Same H H'->H' l=some (.lst ((rowV n).map V.int))->Q (.ref l) H'
theorem sc_chs:FnScope ["_law_n","_law_row","_law_k"] ["_law_n"] (defScope s_chs):=⟨rfl,rfl,rfl,by decide +kernel,rfl,by decide +kernel,by decide +kernel⟩
theorem ok_chs {f:Addr}{fd:FuncData} (F:Fun K "_law_choices" "_law_choices" s_chs f fd) (T:Txt mg):FnOk P w K mg base CX0 1 f fd ["_law_n"] spChs:=by
 refine F.ok sc_chs (λ vs H Q E h=>?_) (λ cdv A outer s H vs Q E hr h=>?_)
 ·obtain⟨n,rfl,_⟩:=h
  rfl
 obtain⟨n,rfl,hn,q⟩:=h
 refine⟨_,(pss_cons (ps_set (i:=1) sc_chs.nd rfl (Or.inr rfl) (pe_lst (pa_cons pe_int pa_nil)))
  (pss_cons (ps_for PassesOwn.never rfl (pi_range1 rfl T.range (pa_cons (pv 0) pa_nil)) (pg_name (i:=2) sc_chs.nd rfl (Or.inl rfl)) (pss_one (ps_set (i:=1) sc_chs.nd rfl (Or.inr rfl) (pe_op op_cat (pe_op op_cat (pe_lst (pa_cons pe_int pa_nil)) (pe_comp (ts:=[("_law_row",1)]) rfl ⟨rfl,sub1 rfl,rfl,rfl,rfl,rfl,by decide +kernel,rfl,rfl⟩ (pi_range1 rfl T.range (pa_cons (pe_op op_sub (pe_callB call_len_seq rfl T.len boot_len (pa_cons (pv 1) pa_nil)) pe_int) pa_nil)) (λ C s3 H3 fp=>(pe_op op_add (pe_ix ix_listC (pv 1) (pv 0) (λ _ _=>rfl)) (pe_ix ix_listC (pv 1) (pe_op op_add (pv 0) pe_int) (λ _ _=>rfl)))))) (pe_lst (pa_cons pe_int pa_nil))))))
  (pss_one (ps_ret (pv 1))))),?_⟩
 refine⟨(by show 1<=sizeLine;decide),λ p1 h1=>?_⟩
 refine⟨_,rfl,_,rfl,by omega,by omega,?_⟩
 have big:∀ m:Nat,m<=40->m<=sizeLine:=λ m h=>Nat.le_trans h (by decide)
 refine for_range (lo:=0) (λ i σ H'=>Same H H'/\∃ a v,σ = [some (.int n),some (.ref a),v]/\H' a=some (.lst ((rowV i).map V.int))) ⟨same_new h1 _,p1,none,rfl,upd_same⟩ ?_ ?_
 ·rintro i σ H1 hi ⟨sm,a,v,rfl,ha⟩
  have len:=rowV_len i
  have hi12:i<12:=by omega
  refine⟨(by show 1<=sizeLine;decide),λ p2 h2=>?_⟩
  have s2:=same_new h2 (.lst [V.int 1])
  have ha2:=s2 _ _ ha
  refine⟨_,rfl,a,_,rfl,.inl (SqL.of ha2),_,_,rfl,rfl,_,rfl,?_,?_,λ D hD=>?_⟩
  ·rw[List.length_map,len];omega
  ·rw[List.length_map,len];omega
  have eN:((((rowV i).map V.int).length:Nat):Int)-1=(i:Int):=by rw[List.length_map,len];omega
  rw[eN]
  have ei:((i:Int)).toNat=i:=rfl
  rw[ei]
  refine comp_range (λ j=>.int ((binom i j:Int)+(binom i (j+1):Int))) hD (big _ (by omega)) ?_ ?_
  ·intro j H2 k hj sm2 hk
   have ha3:=sm2 _ _ ha2
   refine⟨_,rfl,_,rfl,a,_,_,_,rfl,rfl,SqL.of ha3,at_getD (ns:=rowV i) (by omega) (by rw[len];omega),_,rfl,_,rfl,_,_,rfl,rfl,a,_,_,_,rfl,rfl,SqL.of ha3,at_getD (ns:=rowV i) (by omega) (by rw[len];omega),_,_,rfl,rfl,?_⟩
   have e1:((0:Int)+(j:Int)).toNat=j:=by omega
   have e2:((0:Int)+(j:Int)+1).toNat=j+1:=by omega
   rw[e1,e2,rowV_at (by omega),rowV_at (by omega)]
   exact hk H2 (Same.refl H2)
  ·intro H2 sm2 hD2
   have em:(List.range i).map (λ j=>V.int ((binom i j:Int)+(binom i (j+1):Int)))=(midV i).map V.int:=by unfold midV;rw[List.map_map]<;>rfl
   rw[em] at hD2
   have lm:(midV i).length=i:=by simp [midV]
   have hp2:=sm2 _ _ (upd_same (H:=H1) (a:=p2) (o:=.lst [V.int 1]))
   refine⟨p2,D,[.int 1],_,rfl,rfl,hp2,hD2,big _ (by simp [lm];omega),λ p3 h3=>?_⟩
   have s3:=same_new h3 (.lst ([V.int 1]++(midV i).map V.int))
   refine⟨(by show 1<=sizeLine;decide),λ p4 h4=>?_⟩
   have s4:=same_new h4 (.lst [V.int 1])
   refine⟨p3,p4,_,[.int 1],rfl,rfl,s4 _ _ upd_same,upd_same,big _ (by simp [lm];omega),λ p5 h5=>?_⟩
   have s5:=same_new h5 (.lst ([V.int 1]++(midV i).map V.int++[V.int 1]))
   refine⟨((((sm.trans s2).trans sm2).trans s3).trans s4).trans s5,p5,_,rfl,?_⟩
   rw[upd_same,<-rowV_mid,List.map_append,List.map_append]<;>rfl
 ·rintro σ H1 ⟨sm,a,v,rfl,ha⟩
  exact⟨_,rfl,q a H1 sm ha⟩
noncomputable def spCvr:Sp:=λ vs H Q _=>∃ (n:Nat) (l:Addr) (ps:List (Rat×Rat)) (f:Addr) (r:Rat),vs = [.ref l,.ref f]/\RuleAt H l n ps/\Pq H f r/\∀ x H',Same H H'->FqA H' x (rsumO r n (runOf ps r r))->Q (.ref x) H'
theorem heldB_no {n:Nat}{ps:List (Rat×Rat)} (ok:IsRule n ps) {r:Rat}{k:Nat}{p:Rat×Rat} (e:ps[k]? = some p):(lower r (highsOf ps)<=k/\k<upto r (lowsOf ps))↔(p.1<=r/\r<=p.2) :=
 held_iff ok.lows ok.highs (by rw[List.getElem?_map,e];rfl) (by rw[List.getElem?_map,e];rfl)
theorem sc_cvr:FnScope ["_law_rule","_law_p","_law_n","_law_won","_law_lost","_law_row","_law_total","_law_k"] ["_law_rule","_law_p"] (defScope s_cvr):=⟨rfl,rfl,rfl,by decide +kernel,rfl,by decide +kernel,by decide +kernel⟩
theorem ok_cvr {f:Addr}{fd:FuncData} (F:Fun K "_law_cover" "_law_cover" s_cvr f fd) (T:Txt mg) {fpows:Addr}{dpows:FuncData} (Gpows:FnOk P w K mg base CX0 2 fpows dpows ["_law_number","_law_many"] spPows) (bpows:Binds K dpows ["_law_number","_law_many"] []) (kpows:PySem.W.keepIn K (.ref fpows)=true) (mpows:mg "_law_powers" = some (.ref fpows)) {fchs:Addr}{dchs:FuncData} (Gchs:FnOk P w K mg base CX0 2 fchs dchs ["_law_n"] spChs) (bchs:Binds K dchs ["_law_n"] []) (kchs:PySem.W.keepIn K (.ref fchs)=true) (mchs:mg "_law_choices" = some (.ref fchs)) {fnm:Addr}{dnm:FuncData} (Gnm:FnOk P w K mg base CX0 2 fnm dnm ["_law_one","_law_other"] spNm) (bnm:Binds K dnm ["_law_one","_law_other"] []) (knm:PySem.W.keepIn K (.ref fnm)=true) (mnm:mg "_law_no_more" = some (.ref fnm)):FnOk P w K mg base CX0 3 f fd ["_law_rule","_law_p"] spCvr:=by
 refine F.ok sc_cvr (λ vs H Q E h=>?_) (λ cdv A outer s H vs Q E hr h=>?_)
 ·obtain⟨n,l,ps,f,r,rfl,_⟩:=h
  rfl
 obtain⟨n,l,ps,f,r,rfl,⟨⟨tt,zs,hl,ht,row⟩,ok⟩,pq,q⟩:=h
 refine⟨_,(pss_cons (ps_set (i:=2) sc_cvr.nd rfl (Or.inl rfl) (pe_ix ix_tup (pv 0) pe_int (λ _ _=>rfl)))
  (pss_cons (ps_set (i:=3) sc_cvr.nd rfl (Or.inl rfl) (pe_call Gpows hr rfl mpows kpows bpows .nil pass0 (pa_cons (pe_ix ix_tup (pv 1) pe_int (λ _ _=>rfl)) (pa_cons (pv 2) pa_nil))))
  (pss_cons (ps_set (i:=4) sc_cvr.nd rfl (Or.inl rfl) (pe_call Gpows hr rfl mpows kpows bpows .nil pass0 (pa_cons (pe_op op_sub (pe_ix ix_tup (pv 1) pe_int (λ _ _=>rfl)) (pe_ix ix_tup (pv 1) pe_int (λ _ _=>rfl))) (pa_cons (pv 2) pa_nil))))
  (pss_cons (ps_set (i:=5) sc_cvr.nd rfl (Or.inl rfl) (pe_call Gchs hr rfl mchs kchs bchs .nil pass0 (pa_cons (pv 2) pa_nil)))
  (pss_cons (ps_set (i:=6) sc_cvr.nd rfl (Or.inl rfl) pe_int)
  (pss_cons (ps_for PassesOwn.never rfl (pi_range1 rfl T.range (pa_cons (pe_op op_add (pv 2) pe_int) pa_nil)) (pg_name (i:=7) sc_cvr.nd rfl (Or.inl rfl)) (pss_one (ps_if (PW.pt (pw_and (pt_val (pe_call Gnm hr rfl mnm knm bnm .nil pass0 (pa_cons (pe_ix ix_tup (pe_ix ix_tup (pe_ix ix_tup (pv 0) pe_int (λ _ _=>rfl)) (pv 7) (λ _ _=>rfl)) pe_int (λ _ _=>rfl)) (pa_cons (pv 1) pa_nil)))) (pw_and1 (pt_val (pe_call Gnm hr rfl mnm knm bnm .nil pass0 (pa_cons (pv 1) (pa_cons (pe_ix ix_tup (pe_ix ix_tup (pe_ix ix_tup (pv 0) pe_int (λ _ _=>rfl)) (pv 7) (λ _ _=>rfl)) pe_int (λ _ _=>rfl)) pa_nil))))))) (pss_one (ps_set (i:=6) sc_cvr.nd rfl (Or.inl rfl) (pe_op op_add (pv 6) (pe_op op_mulK (pe_op op_mulK (pe_ix ix_list (pv 5) (pv 7) (λ _ _=>rfl)) (pe_ix ix_list (pv 3) (pv 7) (λ _ _=>rfl))) (pe_ix ix_list (pv 4) (pe_op op_sub (pv 2) (pv 7)) (λ _ _=>rfl)))))) pss_nil)))
  (pss_one (ps_ret (pe_tup (pa_cons (pv 6) (pa_cons (pe_ix ix_list (pe_call Gpows hr rfl mpows kpows bpows .nil pass0 (pa_cons (pe_ix ix_tup (pv 1) pe_int (λ _ _=>rfl)) (pa_cons (pv 2) pa_nil))) (pv 2) (λ _ _=>rfl)) pa_nil))))))))))),?_⟩
 have lz:=row.len
 have l13:=ok.len
 have n12:=ok.n12
 have fq:=pq.fq
 have un:=pq.unit
 obtain⟨t,b,ef,b0,t0,tb,er,szb⟩:=pq.ob
 have szt:Sz 300 t:=sz_le t0 tb szb
 have szd:Sz 300 (b-t):=sz_sub t0 tb szb
 refine⟨_,rfl,l,_,0,_,rfl,rfl,SqT.of hl,at0,?_⟩
 refine⟨_,rfl,f,_,0,_,rfl,rfl,SqT.of ef,at0,_,rfl,t,n,rfl,szt.mono (by decide),n12,λ lw H1 s1 hw=>?_⟩
 refine⟨_,rfl,f,_,1,_,rfl,rfl,SqT.of (s1 _ _ ef),at1,_,rfl,f,_,0,_,rfl,rfl,SqT.of (s1 _ _ ef),at0,_,_,rfl,rfl,_,rfl,b-t,n,rfl,szd.mono (by decide),n12,λ ll H2 s2 hL=>?_⟩
 refine⟨_,rfl,n,rfl,n12,λ lr H3 s3 hR=>?_⟩
 have s13:=(s1.trans s2).trans s3
 have hw3:=s3 _ _ (s2 _ _ hw)
 have hL3:=s3 _ _ hL
 refine⟨_,rfl,_,_,rfl,rfl,_,rfl,by omega,by omega,?_⟩
 have en:((n:Int)+1).toNat=n+1:=by omega
 rw[en]
 refine for_range (lo:=0) (λ k σ H'=>H'=H3/\∃ v,σ = [some (.ref l),some (.ref f),some (.int n),some (.ref lw),some (.ref ll),some (.ref lr),some (.int (ism (hT (lowsOf ps) (highsOf ps) r t b n) k)),v]) ⟨rfl,none,rfl⟩ ?_ ?_
 ·rintro k σ H' hk ⟨rfl,v,rfl⟩
  have hk':k<=n:=by omega
  have ek:(0:Int)+(k:Int)=(k:Int):=by omega
  rw[ek]
  have epk:=List.getElem?_eq_getElem (show k<ps.length by omega)
  obtain⟨d,la,ha,f1,f2,f3,f4⟩:=(row.keep s13).get epk
  have hB:=heldB_no ok (r:=r) epk
  have hl3:=s13 _ _ hl
  have ht3:=s13 _ _ ht
  have fq3:=fq.keep s13
  have nx:ism (hT (lowsOf ps) (highsOf ps) r t b n) (k+1)=ism (hT (lowsOf ps) (highsOf ps) r t b n) k+hT (lowsOf ps) (highsOf ps) r t b n k:=rfl
  rw[nx]
  unfold hT
  refine⟨_,rfl,l,_,1,_,rfl,rfl,SqT.of hl3,at1,_,rfl,tt,_,_,_,rfl,rfl,SqT.of ht3,atI_nat f1,d,_,0,_,rfl,rfl,SqT.of f2,at0,_,rfl,la,f,_,_,rfl,f3.fq,fq3,_,rfl,?_⟩
  by_cases c1:ps[k].1<=r
  ·rw[decide_eq_true c1]
   refine iteT ⟨_,rfl,_,rfl,l,_,1,_,rfl,rfl,SqT.of hl3,at1,_,rfl,tt,_,_,_,rfl,rfl,SqT.of ht3,atI_nat f1,d,_,1,_,rfl,rfl,SqT.of f2,at1,f,ha,_,_,rfl,fq3,f4.fq,_,rfl,?_⟩
   by_cases c2:r<=ps[k].2
   ·rw[decide_eq_true c2,if_pos (hB.mpr ⟨c1,c2⟩)]
    have z1:Sz (300*k+1) (t^k):=szt.powN _
    have z2:Sz (300*(n-k)+1) ((b-t)^(n-k)):=szd.powN _
    have z3:=(sz_binom n k).mul z1
    have e1:((k:Int)).toNat=k:=rfl
    have e2:((n:Int)-(k:Int)).toNat=n-k:=by omega
    have a1:atI ((rowV n).map V.int) (k:Int)=some (.int (binom n k:Int)):=by
     have:=at_getD (ns:=rowV n) (i:=(k:Int)) (by omega) (by rw[rowV_len];omega)
     rw[e1,rowV_at hk'] at this;exact this
    have a2:atI ((powV t n).map V.int) (k:Int)=some (.int (t^k)):=by
     have:=at_getD (ns:=powV t n) (i:=(k:Int)) (by omega) (by rw[powV_len];omega)
     rw[e1,powV_at hk'] at this;exact this
    have a3:atI ((powV (b-t) n).map V.int) ((n:Int)-(k:Int))=some (.int ((b-t)^(n-k))):=by
     have:=at_getD (ns:=powV (b-t) n) (i:=(n:Int)-(k:Int)) (by omega) (by rw[powV_len];omega)
     rw[e2,powV_at (by omega)] at this;exact this
    refine iteT ⟨_,rfl,_,rfl,_,rfl,lr,_,_,_,rfl,rfl,SqL.of hR,a1,_,rfl,_,rfl,lw,_,_,_,rfl,rfl,SqL.of hw3,a2,_,_,rfl,rfl,⟨(sz_binom n k).smk (by omega),z1.smk (by omega)⟩,_,rfl,_,rfl,_,rfl,_,_,rfl,rfl,ll,_,_,_,rfl,rfl,SqL.of hL3,a3,_,_,rfl,rfl,⟨z3.smk (by omega),z2.smk (by omega)⟩,_,_,rfl,rfl,rfl,_,rfl⟩
   ·rw[decide_eq_false c2,if_neg (λ z=>c2 (hB.mp z).2),Int.add_zero]
    exact iteF ⟨rfl,_,rfl⟩
  ·rw[decide_eq_false c1,if_neg (λ z=>c1 (hB.mp z).1),Int.add_zero]
   exact iteF (iteF ⟨rfl,_,rfl⟩)
 rintro σ H' ⟨rfl,v,rfl⟩
 refine⟨_,rfl,_,rfl,f,_,1,_,rfl,rfl,SqT.of (s13 _ _ ef),at1,_,rfl,b,n,rfl,szb.mono (by decide),n12,λ lp H4 s4 hP=>?_⟩
 have e1:((n:Int)).toNat=n:=rfl
 have a4:atI ((powV b n).map V.int) (n:Int)=some (.int (b^n)):=by
  have:=at_getD (ns:=powV b n) (i:=(n:Int)) (by omega) (by rw[powV_len];omega)
  rw[e1,powV_at (Nat.le_refl n)] at this;exact this
 refine⟨_,rfl,lp,_,_,_,rfl,rfl,SqL.of hP,a4,(by show 2<=sizeLine;decide),λ x hx=>?_⟩
 refine q x _ ((s13.trans s4).trans (same_new hx _)) ?_
 have hi:=hT_is (ls:=lowsOf ps) (hs:=highsOf ps) (r:=r) (t:=t) (b:=b) (n:=n) (by rw[List.length_map,l13];exact Nat.le_refl _) (by rw[List.length_map,l13];exact Nat.le_refl _) er
 rw[<-cov_run] at hi
 have bn:0<b^n:=Int.pow_pos b0
 have szn:Smk (b^n):=(szb.powN n).smk (by omega)
 have uu:=rsumO_unit (n:=n) un.1 un.2 (runOf ps r r)
 have qn:(0:Rat)<=((b^n:Int):Rat):=by exact_mod_cast Int.le_of_lt bn
 have l0:0<=ism (hT (lowsOf ps) (highsOf ps) r t b n) (n+1):=by
  have:(0:Rat)<=((ism (hT (lowsOf ps) (highsOf ps) r t b n) (n+1):Int):Rat):=by rw[<-hi];exact Rat.mul_nonneg uu.1 qn
  exact_mod_cast this
 have l1:ism (hT (lowsOf ps) (highsOf ps) r t b n) (n+1)<=b^n:=by
  have:((ism (hT (lowsOf ps) (highsOf ps) r t b n) (n+1):Int):Rat)<=((b^n:Int):Rat):=by
   rw[<-hi]
   have:=rle (a:=rsumO r n (runOf ps r r)) (b:=1) uu.2 qn
   grind
  exact_mod_cast this
 exact⟨_,_,upd_same,bn,hi,sz_le l0 l1 szn,szn⟩
structure LHm (m:Int) (n:Nat) (ls hs:List Int):Prop where
 l1:ls.length=n+1
 l2:hs.length=n+1
 b1:∀ k,k<=n->0<=ls.getD k 0/\ls.getD k 0<=m
 b2:∀ k,k<=n->0<=hs.getD k 0/\hs.getD k 0<=m
 u1:∀ k,k<n->ls.getD k 0<=ls.getD (k+1) 0
 u2:∀ k,k<n->hs.getD k 0<=hs.getD (k+1) 0
 le:∀ k,k<=n->ls.getD k 0<=hs.getD k 0
noncomputable def psO (m:Int) (ls hs:List Int) (n:Nat):List (Rat×Rat):=(List.range n).map λ k=>(rq (ls.getD k 0) m,rq (hs.getD k 0) m)
theorem rq_le {a b m:Int} (hm:0<m) (h:a<=b):rq a m<=rq b m:=by
 have e1:=rq_mul20 (t:=a) hm
 have e2:=rq_mul20 (t:=b) hm
 exact (fq_le hm hm e1 e2).mp (Int.mul_le_mul_of_nonneg_right h (by omega))
theorem LHm.rule {m:Int}{n:Nat}{ls hs:List Int} (h:LHm m n ls hs) (m1:0<m) (n1:1<=n) (n12:n<=12):IsRule n (psO m ls hs (n+1)) where
 n1:=n1
 n12:=n12
 len:=by unfold psO;simp
 lows:=by
  unfold psO
  rw[List.map_map]
  exact up_range λ k hk=>rq_le m1 (h.u1 k (by omega))
 highs:=by
  unfold psO
  rw[List.map_map]
  exact up_range λ k hk=>rq_le m1 (h.u2 k (by omega))
 le:=λ p hp=>by
  unfold psO at hp
  obtain⟨k,hk,rfl⟩:=List.mem_map.mp hp
  exact rq_le m1 (h.le k (by have:=List.mem_range.mp hk;omega))
theorem boot_sorted:bootBuiltins "sorted" = some (.builtin "sorted"):=by decide +kernel
theorem lt100 {n:Nat} (h:n<=100):n<sizeLine:=Nat.lt_of_le_of_lt h (by decide)
theorem ints_put {H:Hp}{L x:Addr}{o:HO}{us:List V} (h:H x=some (.lst us)) (n:x≠L):upd H L o x=some (.lst us):=by rw[upd_ne n];exact h
theorem perm_in {ms ns:List Int}{m:Int} (p:ms.Perm ns) (h:∀ x∈ns,0<=x/\x<=m):∀ x∈ms,0<=x/\x<=m:=λ x hx=>h x (p.subset hx)
theorem pw_getD {l:List Int} (h:l.Pairwise (·<=·)) {k:Nat} (hk:k+1<l.length):l.getD k 0<=l.getD (k+1) 0:=by
 rw[getD_in (show k<l.length by omega),getD_in hk]
 exact List.pairwise_iff_getElem.mp h k (k+1) _ hk (by omega)
noncomputable def mxL (n:Nat) (ls hs:List Int):List Int:=(List.range (n+1)).map λ k=>if hs.getD k 0>ls.getD k 0 then hs.getD k 0 else ls.getD k 0
theorem mxL_at {n:Nat}{ls hs:List Int}{k:Nat} (h:k<=n):(mxL n ls hs).getD k 0=if hs.getD k 0>ls.getD k 0 then hs.getD k 0 else ls.getD k 0:=by
 unfold mxL
 simp [List.getD,show k<n+1 by omega]
theorem mx_ok {m:Int}{n:Nat}{ls hs:List Int} (l1:ls.length=n+1) (l2:hs.length=n+1) (b1:∀ x∈ls,0<=x/\x<=m) (b2:∀ x∈hs,0<=x/\x<=m) (p1:ls.Pairwise (·<=·)) (p2:hs.Pairwise (·<=·)):LHm m n ls (mxL n ls hs):=by
 have c1:∀ k,k<=n->0<=ls.getD k 0/\ls.getD k 0<=m:=λ k hk=>b1 _ (getD_mem (by omega))
 have c2:∀ k,k<=n->0<=hs.getD k 0/\hs.getD k 0<=m:=λ k hk=>b2 _ (getD_mem (by omega))
 refine⟨l1,by simp [mxL],c1,λ k hk=>?_,λ k hk=>pw_getD p1 (by omega),λ k hk=>?_,λ k hk=>?_⟩
 ·rw[mxL_at hk]
  have:=c1 k hk
  have:=c2 k hk
  split<;>omega
 ·rw[mxL_at (show k<=n by omega),mxL_at (show k+1<=n by omega)]
  have:=pw_getD p1 (k:=k) (by omega)
  have:=pw_getD p2 (k:=k) (by omega)
  split<;>split<;>omega
 ·rw[mxL_at hk]
  split<;>omega
noncomputable def RowZ (H:Hp):List (Int×Int)->List V->Prop
 | [],xs=>xs = []
 | p::ps,xs=>∃ a ys,xs=.ref a::ys/\H a=some (.tup [.int p.1,.int p.2])/\RowZ H ps ys
theorem RowZ.keep {H H':Hp} (s:Same H H'):∀ {ps:List (Int×Int)}{xs:List V},RowZ H ps xs->RowZ H' ps xs
 | [],_,h=>h
 | _::_,_,⟨a,ys,e,h1,h2⟩=>⟨a,ys,e,s _ _ h1,h2.keep s⟩
theorem RowZ.len {H:Hp}:∀ {ps:List (Int×Int)}{xs:List V},RowZ H ps xs->xs.length=ps.length
 | [],_,h=>by rw[show _ = [] from h];rfl
 | _::_,_,⟨a,ys,e,h1,h2⟩=>by rw[e,List.length_cons,List.length_cons,h2.len]
theorem RowZ.get {H:Hp}:∀ {ps:List (Int×Int)}{xs:List V}{i:Nat}{p:Int×Int},RowZ H ps xs->ps[i]? = some p->∃ a,xs[i]? = some (.ref a)/\H a=some (.tup [.int p.1,.int p.2])
 | [],_,_,_,_,q=>by simp at q
 | p::_,_,0,_,⟨a,ys,e,h1,h2⟩,q=>by
  rw[List.getElem?_cons_zero] at q
  cases q
  exact⟨a,by rw[e];rfl,h1⟩
 | _::_,_,i+1,_,⟨a,ys,e,h1,h2⟩,q=>by
  rw[List.getElem?_cons_succ] at q
  obtain⟨b,f,g⟩:=h2.get q
  exact⟨b,by rw[e,List.getElem?_cons_succ];exact f,g⟩
theorem RowZ.app {H:Hp}:∀ {ps qs:List (Int×Int)}{xs ys:List V},RowZ H ps xs->RowZ H qs ys->RowZ H (ps++qs) (xs++ys)
 | [],_,_,_,h,k=>by rw[show _ = [] from h];exact k
 | _::_,_,_,_,⟨a,zs,e,h1,h2⟩,k=>by rw[e];exact⟨a,_,rfl,h1,h2.app k⟩
theorem RowZ.write {H:Hp}{l:Addr}{zs ws:List V} (hl:H l=some (.lst zs)):∀ {ps:List (Int×Int)}{xs:List V},RowZ H ps xs->RowZ (upd H l (.lst ws)) ps xs
 | [],_,h=>h
 | _::_,_,⟨a,ys,e,h1,h2⟩=>⟨a,ys,e,by rw[upd_ne (ne_of h1 hl (by intro z;cases z))];exact h1,h2.write hl⟩
noncomputable def zsL (ls hs:List Int) (m:Nat):List (Int×Int):=(List.range m).map λ k=>(ls.getD k 0,hs.getD k 0)
theorem zsL_snoc (ls hs:List Int) (m:Nat):zsL ls hs (m+1)=zsL ls hs m++[(ls.getD m 0,hs.getD m 0)]:=by unfold zsL;rw[List.range_succ,List.map_append]<;>rfl
noncomputable def spStp (K:PySem.W.Frag):Sp:=λ vs H Q _=>∃ (a:Addr) (ns:List Int) (n:Nat) (m:Int),vs = [.ref a,.int n,.int m]/\SqL K H a (ns.map V.int)/\1<=n/\n<=12/\1<=m/\m<=60/\∀ l zs H' ls hs,Same H H'->H' l=some (.lst zs)->RowZ H' (zsL ls hs (n+1)) zs->LHm m n ls hs->Q (.ref l) H'
theorem sc_stp:FnScope ["_law_script","_law_n","_law_measure","_law_lows","_law_highs","_law_k","_law_xs"] ["_law_script","_law_n","_law_measure"] (defScope s_stp):=⟨rfl,rfl,rfl,by decide +kernel,rfl,by decide +kernel,by decide +kernel⟩
theorem ok_stp {f:Addr}{fd:FuncData} (F:Fun K "_law_steps" "_law_steps" s_stp f fd) (T:Txt mg) {fcell:Addr}{dcell:FuncData} (Gcell:FnOk P w K mg base CX0 3 fcell dcell ["_law_script","_law_k"] (spCell K)) (bcell:Binds K dcell ["_law_script","_law_k"] []) (kcell:PySem.W.keepIn K (.ref fcell)=true) (mcell:mg "_law_cell_at" = some (.ref fcell)) {fstream:Addr}{dstream:FuncData} (Gstream:FnOk P w K mg base CX0 3 fstream dstream ["_law_cell","_law_salt","_law_many"] spStream) (bstream:Binds K dstream ["_law_cell","_law_salt","_law_many"] []) (kstream:PySem.W.keepIn K (.ref fstream)=true) (mstream:mg "_law_stream" = some (.ref fstream)):FnOk P w K mg base CX0 4 f fd ["_law_script","_law_n","_law_measure"] (spStp K):=by
 refine F.ok sc_stp (λ vs H Q E h=>?_) (λ cdv A outer s H vs Q E hr h=>?_)
 ·obtain⟨a,ns,n,m,rfl,_⟩:=h
  rfl
 obtain⟨a,ns,n,m,rfl,hS,n1,n12,m1,m60,q⟩:=h
 refine⟨_,(pss_cons (ps_set (i:=3) sc_stp.nd rfl (Or.inr rfl) (pe_lst pa_nil))
  (pss_cons (ps_set (i:=4) sc_stp.nd rfl (Or.inr rfl) (pe_lst pa_nil))
  (pss_cons (ps_for PassesOwn.never rfl (pi_range1 rfl T.range (pa_cons (pe_op op_add (pv 1) pe_int) pa_nil)) (pg_name (i:=5) sc_stp.nd rfl (Or.inl rfl)) (pss_cons (ps_set (i:=6) sc_stp.nd rfl (Or.inl rfl) (pe_call Gstream hr rfl mstream kstream bstream .nil pass0 (pa_cons (pe_call Gcell hr rfl mcell kcell bcell .nil pass0 (pa_cons (pv 0) (pa_cons (pe_op op_add pe_int (pv 5)) pa_nil))) (pa_cons (pe_op op_add pe_int (pv 5)) (pa_cons pe_int pa_nil)))))
   (pss_cons (ps_expr (pe_bm PySem.F.plainAttrs_list PySem.F.slot_list_append PySem.F.type_list_append mt_append (pv 3) (pa_cons (pe_op op_mod (pe_ix ix_list (pv 6) pe_int (λ _ _=>rfl)) (pe_op op_add (pe_op op_fdiv (pv 2) pe_int) pe_int)) pa_nil)))
   (pss_one (ps_expr (pe_bm PySem.F.plainAttrs_list PySem.F.slot_list_append PySem.F.type_list_append mt_append (pv 4) (pa_cons (pe_op op_sub (pv 2) (pe_op op_mod (pe_ix ix_list (pv 6) pe_int (λ _ _=>rfl)) (pe_op op_add (pe_op op_fdiv (pv 2) pe_int) pe_int))) pa_nil)))))))
  (pss_cons (ps_set (i:=3) sc_stp.nd rfl (Or.inr rfl) (pe_callB call_sortedI rfl T.sorted boot_sorted (pa_cons (pv 3) pa_nil)))
  (pss_cons (ps_set (i:=4) sc_stp.nd rfl (Or.inr rfl) (pe_callB call_sortedI rfl T.sorted boot_sorted (pa_cons (pv 4) pa_nil)))
  (pss_one (ps_ret (pe_comp (ts:=[("_law_lows",3),("_law_highs",4)]) rfl ⟨rfl,sub2 rfl rfl,rfl,rfl,rfl,rfl,by decide +kernel,rfl,rfl⟩ (pi_range1 rfl T.range (pa_cons (pe_op op_add (pv 1) pe_int) pa_nil)) (λ C s3 H3 fp=>(pe_tup (pa_cons (pe_ix ix_listC (pv 1) (pv 0) (λ _ _=>rfl)) (pa_cons (pe_callB (call_max2 rfl) rfl T.max boot_max (pa_cons (pe_ix ix_listC (pv 1) (pv 0) (λ _ _=>rfl)) (pa_cons (pe_ix ix_listC (pv 2) (pv 0) (λ _ _=>rfl)) pa_nil))) pa_nil)))))))))))),?_⟩
 refine⟨Nat.zero_le _,λ L hL=>⟨Nat.zero_le _,λ G hG=>?_⟩⟩
 have u2:=same_new hL (.lst [])
 have u3:=same_new hG (.lst [])
 have u13:=u2.trans u3
 have nLG:L≠G:=λ e=>by rw[<-e,upd_same] at hG;cases hG
 have hGn:=none_back u2 hG
 refine⟨_,rfl,_,_,rfl,rfl,_,rfl,by omega,by omega,?_⟩
 have en:((n:Int)+1).toNat=n+1:=by omega
 rw[en]
 have pp0:(0:Int)<m / 3+1:=by omega
 refine for_range (lo:=0) (λ i σ H'=>Same H H'/\∃ us ws v1 v2,σ = [some (.ref a),some (.int n),some (.int m),some (.ref L),some (.ref G),v1,v2]/\H' L=some (.lst (us.map V.int))/\H' G=some (.lst (ws.map V.int))/\us.length=i/\ws.length=i/\(∀ x∈us,0<=x/\x<=m)/\(∀ x∈ws,0<=x/\x<=m)) ⟨u13,[],[],none,none,rfl,u3 _ _ upd_same,upd_same,rfl,rfl,(by intro r hr;cases hr),(by intro r hr;cases hr)⟩ ?_ ?_
 ·rintro i σ H1 hi ⟨sm,us,ws,v1,v2,rfl,hL1,hG1,lu,lw,b1,b2⟩
  refine⟨_,rfl,_,rfl,_,_,rfl,rfl,a,ns,_,rfl,sm.seq hS,by omega,_,rfl,_,_,rfl,rfl,_,_,2,rfl,by omega,by omega,by decide,λ lx H2 xs fx s2 hx lx3 xin=>?_⟩
  have sm2:=sm.trans s2
  have hL2:=s2 _ _ hL1
  have hG2:=s2 _ _ hG1
  have nxL:lx≠L:=λ e=>by rw[e,hL1] at fx;cases fx
  have nxG:lx≠G:=λ e=>by rw[e,hG1] at fx;cases fx
  have gx:∀ k:Nat,k<2->atI (xs.map V.int) (k:Int)=some (.int (xs.getD k 0)):=λ k hk=>at_getD (ns:=xs) (i:=(k:Int)) (by omega) (by omega)
  have e0:=md0 (xs.getD 0 0) pp0
  have e0':=md1 (xs.getD 0 0) pp0
  have e1:=md0 (xs.getD 1 0) pp0
  have e1':=md1 (xs.getD 1 0) pp0
  refine⟨_,rfl,.inl ⟨rfl,_,SqL.of hL2⟩,_,rfl,lx,_,0,_,rfl,rfl,SqL.of hx,gx 0 (by decide),_,rfl,_,_,rfl,rfl,⟨by decide,by decide⟩,_,_,rfl,rfl,_,_,rfl,rfl,pp0,L,_,_,rfl,rfl,hL2,lt100 (by simp;omega),?_⟩
  have hx3:=ints_put (o:=.lst (us.map V.int++[.int (xs.getD 0 0%(m / 3+1))])) hx nxL
  have hG3:=ints_put (o:=.lst (us.map V.int++[.int (xs.getD 0 0%(m / 3+1))])) hG2 (Ne.symm nLG)
  refine⟨_,rfl,.inl ⟨rfl,_,SqL.of hG3⟩,_,rfl,_,rfl,lx,_,1,_,rfl,rfl,SqL.of hx3,gx 1 (by decide),_,rfl,_,_,rfl,rfl,⟨by decide,by decide⟩,_,_,rfl,rfl,_,_,rfl,rfl,pp0,_,_,rfl,rfl,G,_,_,rfl,rfl,hG3,lt100 (by simp;omega),?_⟩
  refine⟨same_write (same_write sm2 hL) hGn,us++[xs.getD 0 0%(m / 3+1)],ws++[m-xs.getD 1 0%(m / 3+1)],_,_,rfl,?_,?_,by simp;omega,by simp;omega,λ x hx=>?_,λ x hx=>?_⟩
  ·rw[upd_ne nLG,upd_same,List.map_append]<;>rfl
  ·rw[upd_same,List.map_append]<;>rfl
  ·rcases List.mem_append.mp hx with hx | hx
   ·exact b1 x hx
   ·rw[List.mem_singleton.mp hx];omega
  ·rcases List.mem_append.mp hx with hx | hx
   ·exact b2 x hx
   ·rw[List.mem_singleton.mp hx];omega
 rintro σ H1 ⟨sm,us,ws,v1,v2,rfl,hL1,hG1,lu,lw,b1,b2⟩
 refine⟨_,rfl,L,us,rfl,SqL.of hL1,by omega,λ L' ls hL' p1 w1=>?_⟩
 have s1:=same_new hL' (.lst (ls.map V.int))
 refine⟨_,rfl,G,ws,rfl,SqL.of (s1 _ _ hG1),by omega,λ G' hs hG' p2 w2=>?_⟩
 have s2:=same_new hG' (.lst (hs.map V.int))
 have hLs:=s2 _ _ (upd_same (H:=H1) (a:=L') (o:=.lst (ls.map V.int)))
 have hGs:(upd (upd H1 L' (.lst (ls.map V.int))) G' (.lst (hs.map V.int))) G'=some (.lst (hs.map V.int)):=upd_same
 have l1:ls.length=n+1:=by rw[p1.length_eq];exact lu
 have l2:hs.length=n+1:=by rw[p2.length_eq];exact lw
 have lh:=mx_ok l1 l2 (perm_in p1 b1) (perm_in p2 b2) w1 w2
 have sm2:=(sm.trans s1).trans s2
 generalize upd (upd H1 L' (.lst (ls.map V.int))) G' (.lst (hs.map V.int))=H2 at *
 dsimp only
 refine⟨_,rfl,_,_,rfl,rfl,_,rfl,by omega,by omega,λ D hD=>?_⟩
 rw[en]
 refine comp_rangeR (λ i ys G2=>RowZ G2 (zsL ls (mxL n ls hs) i) ys) hD (Nat.le_of_lt (lt100 (by omega))) rfl ?_ ?_
 ·intro k ys H3 kk hk s3 hD3 row hq
  have ek:(0:Int)+(k:Int)=(k:Int):=by omega
  rw[ek]
  refine⟨_,rfl,_,rfl,L',_,_,_,rfl,rfl,SqL.of (s3 _ _ hLs),at_getD (ns:=ls) (by omega) (by omega),_,rfl,_,rfl,L',_,_,_,rfl,rfl,SqL.of (s3 _ _ hLs),at_getD (ns:=ls) (by omega) (by omega),_,rfl,_,rfl,G',_,_,_,rfl,rfl,SqL.of (s3 _ _ hGs),at_getD (ns:=hs) (by omega) (by omega),_,_,rfl,(by show 2<=sizeLine;decide),λ p hp=>?_⟩
  have sp:=same_new hp (.tup [V.int (ls.getD k 0),V.int (if hs.getD k 0>ls.getD k 0 then hs.getD k 0 else ls.getD k 0)])
  refine hq _ _ sp ?_
  rw[zsL_snoc]
  refine ((row.keep sp).app (show RowZ _ [_] [.ref p] from ⟨p,[],rfl,?_,rfl⟩)).write (sp _ _ hD3)
  rw[mxL_at (by omega)]
  exact upd_same
 ·intro ys H3 s3 hD3 hl3 row
  exact q D ys H3 ls (mxL n ls hs) (sm2.trans s3) hD3 row lh
theorem boot_ValueError:bootBuiltins "ValueError" = some (.type "ValueError"):=by decide +kernel
noncomputable def spLsh (K:PySem.W.Frag):Sp:=λ vs H Q _=>∃ (a la:Addr) (ns:List Int) (r:Rat),vs = [.ref a,.ref la]/\SqL K H a (ns.map V.int)/\FrA H la r/\0<=r/\r<=1/\Sz 120 (r.den:Int)/\∀ sa s H',Same H H'->FrA H' sa s->0<=s->s<=1->GoodS r s->Q (.ref sa) H'
theorem rq_fr {H:Hp}{a:Addr}{t b:Int}{m:Nat} (t0:0<=t) (tb:t<=b) (hb:0<b) (sb:Sz m b) (hm:m<=4400) (e:H a=some (.tup [.int (rq t b).num,.int ((rq t b).den:Int)])):FrA H a (rq t b)/\0<=rq t b/\rq t b<=1:=by
 obtain⟨u0,u1⟩:=rq_unit t0 tb hb
 have sz:=shp_sz t0 tb hb sb
 have n0:=(r_nonneg (rq t b)).mpr u0
 have n1:=(r_le1 (rq t b)).mpr u1
 exact⟨⟨e,(sz_le n0 n1 sz).mono hm,sz.mono hm⟩,u0,u1⟩
theorem sc_lsh:FnScope ["_law_script","_law_low","_law_cell","_law_hair","_law_bottom"] ["_law_script","_law_low"] (defScope s_lsh):=⟨rfl,rfl,rfl,by decide +kernel,rfl,by decide +kernel,by decide +kernel⟩
theorem ok_lsh {f:Addr}{fd:FuncData} (F:Fun K "_law_share" "_law_share" s_lsh f fd) (T:Txt mg) {fcell:Addr}{dcell:FuncData} (Gcell:FnOk P w K mg base CX0 3 fcell dcell ["_law_script","_law_k"] (spCell K)) (bcell:Binds K dcell ["_law_script","_law_k"] []) (kcell:PySem.W.keepIn K (.ref fcell)=true) (mcell:mg "_law_cell_at" = some (.ref fcell)) {fnm:Addr}{dnm:FuncData} (Gnm:FnOk P w K mg base CX0 3 fnm dnm ["_law_one","_law_other"] spNm) (bnm:Binds K dnm ["_law_one","_law_other"] []) (knm:PySem.W.keepIn K (.ref fnm)=true) (mnm:mg "_law_no_more" = some (.ref fnm)) {flow:Addr}{dlow:FuncData} (Glow:FnOk P w K mg base CX0 3 flow dlow ["_law_top","_law_bottom"] spLw) (blow:Binds K dlow ["_law_top","_law_bottom"] []) (klow:PySem.W.keepIn K (.ref flow)=true) (mlow:mg "_law_lowest" = some (.ref flow)):FnOk P w K mg base CX0 4 f fd ["_law_script","_law_low"] (spLsh K):=by
 refine F.ok sc_lsh (λ vs H Q E h=>?_) (λ cdv A outer s H vs Q E hr h=>?_)
 ·obtain⟨a,la,ns,r,rfl,_⟩:=h
  rfl
 obtain⟨a,la,ns,r,rfl,hS,fr,r0,r1,zr,q⟩:=h
 refine⟨_,(pss_cons (ps_set (i:=2) sc_lsh.nd rfl (Or.inl rfl) (pe_call Gcell hr rfl mcell kcell bcell .nil pass0 (pa_cons (pv 0) (pa_cons pe_int pa_nil))))
  (pss_cons (ps_if (pt_cmpR op_eq (pe_op op_mod (pv 2) pe_int) pe_int (nomark _)) (pss_one (ps_ret (pe_tup (pa_cons pe_int (pa_cons pe_int pa_nil))))) pss_nil)
  (pss_cons (ps_if (PW.pt (pw_and (pt_cmpR op_eq (pe_op op_mod (pv 2) pe_int) pe_int (nomark _)) (pw_and1 (pt_cmpR op_isB (pe_call Gnm hr rfl mnm knm bnm .nil pass0 (pa_cons (pe_tup (pa_cons pe_int (pa_cons pe_int pa_nil))) (pa_cons (pv 1) pa_nil))) pe_bl (nomark _))))) (pss_cons (ps_set (i:=3) sc_lsh.nd rfl (Or.inl rfl) (pe_op op_add pe_int (pe_op op_mod (pe_op op_fdiv (pv 2) pe_int) (pe_op op_pow pe_int pe_int))))
   (pss_one (ps_ret (pe_call Glow hr rfl mlow klow blow .nil pass0 (pa_cons (pe_callB (call_min2 rfl) rfl T.min boot_min (pa_cons (pe_op op_mulK (pe_ix ix_tup (pv 1) pe_int (λ _ _=>rfl)) (pv 3)) (pa_cons (pe_op op_add (pe_op op_mulK (pe_ix ix_tup (pv 1) pe_int (λ _ _=>rfl)) (pv 3)) pe_int) pa_nil))) (pa_cons (pe_op op_mulK (pe_ix ix_tup (pv 1) pe_int (λ _ _=>rfl)) (pv 3)) pa_nil)))))) pss_nil)
  (pss_cons (ps_set (i:=4) sc_lsh.nd rfl (Or.inl rfl) (pe_op op_add pe_int (pe_op op_mod (pe_op op_fdiv (pv 2) pe_int) pe_int)))
  (pss_one (ps_ret (pe_call Glow hr rfl mlow klow blow .nil pass0 (pa_cons (pe_op op_mod (pe_call Gcell hr rfl mcell kcell bcell .nil pass0 (pa_cons (pv 0) (pa_cons pe_int pa_nil))) (pe_op op_add (pv 4) pe_int)) (pa_cons (pv 4) pa_nil))))))))),?_⟩
 refine⟨_,rfl,a,ns,2,rfl,hS,by decide,?_⟩
 dsimp only
 generalize ns.getD (2:Int).toNat 0=cc
 have two:2<=sizeLine:=by decide
 have four:(0:Int)<4:=by decide
 have one_fr:∀ {G:Hp}{p:Addr},G p=some (.tup [V.int 1,V.int 1])->FrA G p 1:=λ {G p} e=>⟨e,(Sz.mono (n:=4400) (show (1:Int).natAbs<2^4 from by decide) (by decide)),(Sz.mono (n:=4400) (show (1:Int).natAbs<2^4 from by decide) (by decide))⟩
 refine seq_by (λ σ G=>G=H/\σ = [some (.ref a),some (.ref la),some (.int cc),none,none]) ?_ ?_
 ·intro M hM
  refine⟨_,rfl,_,_,rfl,rfl,four,rfl,_,rfl,?_⟩
  exact ite2 (λ d=>⟨two,λ p hp=>q p 1 _ (same_new hp _) (one_fr upd_same) (by decide +kernel) (by decide +kernel) (gs_own (B:=1) (by decide) (by decide) (Ov.one 1))⟩) (λ d=>hM _ _ ⟨rfl,rfl⟩)
 rintro σ G ⟨rfl,rfl⟩
 have dn:0<r.den:=r.den_pos
 have n0:=(r_nonneg r).mpr r0
 have n1:=(r_le1 r).mpr r1
 refine seq_by (λ σ G'=>Same G G'/\σ = [some (.ref a),some (.ref la),some (.int cc),none,none]) ?_ ?_
 ·intro M hM
  refine⟨_,rfl,_,_,rfl,rfl,four,rfl,_,rfl,?_⟩
  refine ite2 (λ d2=>?_) (λ d2=>iteF (hM _ _ ⟨Same.refl _,rfl⟩))
  refine⟨two,λ p hp=>⟨_,rfl,p,la,1,r,rfl,(one_fr upd_same).fq,(fr.keep (same_new hp _)).fq,_,false,rfl,rfl,_,rfl,?_⟩⟩
  have sp:=same_new hp (.tup [V.int 1,V.int 1])
  have fr':=fr.keep sp
  generalize upd G p (.tup [V.int 1,V.int 1])=G1 at *
  refine ite2 (λ d3=>?_) (λ d3=>hM _ _ ⟨sp,rfl⟩)
  have u6:(10:Int)^(6:Int).toNat=1000000:=by decide
  have u6p:(0:Int)<(10:Int)^(6:Int).toNat:=by decide
  refine⟨_,rfl,_,_,rfl,rfl,⟨by decide,by decide⟩,_,_,rfl,rfl,⟨by decide,by decide,by decide⟩,_,_,rfl,rfl,u6p,_,_,rfl,rfl,?_⟩
  have k0:=md0 (cc / 4) u6p
  have k1:=md1 (cc / 4) u6p
  generalize cc / 4%10^(6:Int).toNat=hh at *
  rw[u6] at k1
  dsimp only
  obtain⟨B,eB,B1,B2⟩:∃ B:Nat,1+hh=(B:Int)/\1<=B/\B<=1000000:=⟨(1+hh).toNat,by omega,by omega,by omega⟩
  rw[eB]
  have zB:Sz 20 (B:Int):=Nat.lt_of_le_of_lt (show (B:Int).natAbs<=1000000 by omega) (by decide)
  have zb:Sz 140 ((r.den:Int)*(B:Int)):=(zr.mul zB).mono (by decide)
  have sm1:Smk (B:Int):=zB.smk (by decide)
  have b0:(0:Int)<(r.den:Int)*(B:Int):=Int.mul_pos (by omega) (by omega)
  have nb:0<=r.num*(B:Int):=Int.mul_nonneg n0 (by omega)
  refine⟨_,rfl,la,_,1,_,rfl,rfl,SqT.of fr'.ob,at1,_,rfl,_,_,rfl,rfl,⟨fr'.sb.smk (by decide),sm1⟩,_,rfl,la,_,0,_,rfl,rfl,SqT.of fr'.ob,at0,_,rfl,_,_,rfl,rfl,⟨fr'.st.smk (by decide),sm1⟩,_,_,rfl,rfl,_,_,rfl,_,rfl,la,_,1,_,rfl,rfl,SqT.of fr'.ob,at1,_,rfl,_,_,rfl,rfl,⟨fr'.sb.smk (by decide),sm1⟩,_,_,rfl,by split<;>omega,b0,zb.smk (by decide),λ x H' s' e=>?_⟩
  have tb:(if r.num*(B:Int)+1<(r.den:Int)*(B:Int) then r.num*(B:Int)+1 else (r.den:Int)*(B:Int))<=(r.den:Int)*(B:Int):=by split<;>omega
  have t0:0<=(if r.num*(B:Int)+1<(r.den:Int)*(B:Int) then r.num*(B:Int)+1 else (r.den:Int)*(B:Int)):=by split<;>omega
  obtain⟨f1,f2,f3⟩:=rq_fr t0 tb b0 zb (by decide) e
  refine q x _ H' (sp.trans s') f1 f2 f3 ⟨B,by omega,Nat.lt_of_le_of_lt B2 (by decide),rq_ov (B:=r.den*B) (by push_cast;rfl) b0⟩
 rintro σ G' ⟨sG,rfl⟩
 refine⟨_,rfl,_,_,rfl,rfl,⟨by decide,by decide⟩,_,_,rfl,rfl,(by show (0:Int)<1000;decide),_,_,rfl,rfl,?_⟩
 have k0:=md0 (cc / 4) (show (0:Int)<1000 by decide)
 have k1:=md1 (cc / 4) (show (0:Int)<1000 by decide)
 generalize cc / 4%1000=hh at *
 dsimp only
 obtain⟨B,eB,B1,B2⟩:∃ B:Nat,1+hh=(B:Int)/\1<=B/\B<=1000:=⟨(1+hh).toNat,by omega,by omega,by omega⟩
 rw[eB]
 have zB:Sz 20 (B:Int):=Nat.lt_of_le_of_lt (show (B:Int).natAbs<=1000000 by omega) (by decide)
 have b1p:(0:Int)<(B:Int)+1:=by omega
 refine⟨_,rfl,a,ns,3,rfl,sG.seq hS,by decide,_,rfl,_,_,rfl,rfl,_,_,rfl,rfl,b1p,_,rfl,_,_,rfl,md0 _ b1p,by omega,zB.smk (by decide),λ x H' s' e=>?_⟩
 obtain⟨f1,f2,f3⟩:=rq_fr (md0 _ b1p) (by have:=md1 (ns.getD (3:Int).toNat 0) b1p;omega) (by omega) zB (by decide) e
 exact q x _ H' (sG.trans s') f1 f2 f3 (gs_own (B:=B) (by omega) (Nat.lt_of_le_of_lt B2 (by decide)) (rq_ov rfl (by omega)))
noncomputable def spanR:List (Rat×Rat)->Rat
 | []=>0
 | p::ps=>spanR ps+(p.2-p.1)
theorem spanR_app:∀ (ps qs:List (Rat×Rat)),spanR (ps++qs)=spanR ps+spanR qs
 | [],qs=>by show spanR qs=0+spanR qs;grind
 | p::ps,qs=>by
  have:=spanR_app ps qs
  show spanR (ps++qs)+(p.2-p.1)=spanR ps+(p.2-p.1)+spanR qs
  grind
theorem spanR_in {D:Nat}:∀ {ps:List (Rat×Rat)},(∀ p∈ps,0<=p.1/\p.1<=p.2/\p.2<=1)->(∀ p∈ps,Ov D p.1/\Ov D p.2)->0<=spanR ps/\spanR ps<=(ps.length:Rat)/\Ov D (spanR ps)
 | [],_,_=>⟨Rat.le_refl,Rat.le_refl,⟨0,by show (0:Rat)*_=((0:Int):Rat);grind⟩⟩
 | p::ps,h1,h2=>by
  obtain⟨a,b,c⟩:=spanR_in (ps:=ps) (λ q hq=>h1 q (.tail _ hq)) λ q hq=>h2 q (.tail _ hq)
  obtain⟨u,v,x⟩:=h1 p (.head _)
  obtain⟨o1,o2⟩:=h2 p (.head _)
  have e:(((p::ps).length:Nat):Rat)=(ps.length:Rat)+1:=by rw[List.length_cons];push_cast;rfl
  rw[e]
  show 0<=spanR ps+(p.2-p.1)/\spanR ps+(p.2-p.1)<=(ps.length:Rat)+1/\Ov D (spanR ps+(p.2-p.1))
  exact⟨by grind,by grind,c.add (o2.sub o1)⟩
theorem ov_fr {D:Nat} (D0:0<D) (D1:D<=1000000) {r:Rat} (h:Ov D r) (h0:0<=r) (h1:r<=13) {H:Hp}{f:Addr} (e:H f=some (.tup [.int r.num,.int (r.den:Int)])):FrA H f r:=by
 have d:=Nat.le_of_dvd D0 h.dvd
 have n0:=(r_nonneg r).mpr h0
 have n1:r.num<=13*(r.den:Int):=by
  have s:=rsplit r
  have dq:=rdenQ r
  have:((r.num:Int):Rat)<=((13*(r.den:Int):Int):Rat):=by
   rw[Rat.intCast_mul,Rat.intCast_natCast,<-s]
   have:=Rat.mul_nonneg (show 0<=13-r by grind) (show 0<=(r.den:Rat) by grind)
   have e13:(((13:Int)):Rat)=13:=rfl
   rw[e13]
   grind
  exact_mod_cast this
 have e24:(13000000:Nat)<2^24:=by decide
 have z1:Sz 24 r.num:=Nat.lt_of_le_of_lt (show r.num.natAbs<=13000000 by omega) e24
 have z2:Sz 24 (r.den:Int):=Nat.lt_of_le_of_lt (show (r.den:Int).natAbs<=13000000 by omega) e24
 exact⟨e,z1.mono (by decide),z2.mono (by decide)⟩
noncomputable def spSpn:Sp:=λ vs H Q _=>∃ (x:Addr) (D n:Nat) (ps:List (Rat×Rat)),vs = [.ref x]/\Qa D H x n ps/\0<D/\D<=1000000/\∀ f H',Same H H'->FrA H' f (spanR ps)->Q (.ref f) H'
theorem sc_spn:FnScope ["rule","total","low","high"] ["rule"] (defScope s_spn):=⟨rfl,rfl,rfl,by decide +kernel,rfl,by decide +kernel,by decide +kernel⟩
theorem ok_spn {f:Addr}{fd:FuncData} (F:Fun K "span" "span" s_spn f fd) (T:Txt mg) {fplus:Addr}{dplus:FuncData} (Gplus:FnOk P w K mg base CX0 5 fplus dplus ["one","other"] spPlus) (bplus:Binds K dplus ["one","other"] []) (kplus:PySem.W.keepIn K (.ref fplus)=true) (mplus:mg "plus" = some (.ref fplus)) {fminus:Addr}{dminus:FuncData} (Gminus:FnOk P w K mg base CX0 5 fminus dminus ["one","other"] spMinus) (bminus:Binds K dminus ["one","other"] []) (kminus:PySem.W.keepIn K (.ref fminus)=true) (mminus:mg "minus" = some (.ref fminus)):FnOk P w K mg base CX0 6 f fd ["rule"] spSpn:=by
 refine F.ok sc_spn (λ vs H Q E h=>?_) (λ cdv A outer s H vs Q E hr h=>?_)
 ·obtain⟨x,D,n,ps,rfl,_⟩:=h
  rfl
 obtain⟨x,D,n,ps,rfl,hx,D0,D1,q⟩:=h
 refine⟨_,(pss_cons (ps_set (i:=1) sc_spn.nd rfl (Or.inl rfl) (pe_tup (pa_cons pe_int (pa_cons pe_int pa_nil))))
  (pss_cons (ps_for PassesOwn.never rfl (pi_tup (pe_ix ix_tup (pv 0) pe_int (λ _ _=>rfl))) (pg_tup rfl (pgs_cons (pg_name (i:=2) sc_spn.nd rfl (Or.inl rfl)) (pgs_cons (pg_name (i:=3) sc_spn.nd rfl (Or.inl rfl)) pgs_nil))) (pss_one (ps_set (i:=1) sc_spn.nd rfl (Or.inl rfl) (pe_call Gplus hr rfl mplus kplus bplus .nil pass0 (pa_cons (pv 1) (pa_cons (pe_call Gminus hr rfl mminus kminus bminus .nil pass0 (pa_cons (pv 3) (pa_cons (pv 2) pa_nil))) pa_nil))))))
  (pss_one (ps_ret (pv 1))))),?_⟩
 obtain⟨t,zs,ox,ot,row⟩:=hx.ru.ob
 have lz:=row.len
 have ok:=hx.ru.ok
 have ir:=hx.ru.isr
 have two:2<=sizeLine:=by decide
 have sub:∀ i,i<=ps.length->0<=spanR (ps.take i)/\spanR (ps.take i)<=13/\Ov D (spanR (ps.take i)):=λ i hi=>by
  obtain⟨a,b,c⟩:=spanR_in (D:=D) (ps:=ps.take i) (λ p hp=>ir.inn p (List.mem_of_mem_take hp)) (λ p hp=>hx.ov p (List.mem_of_mem_take hp))
  have l13:(ps.take i).length<=13:=by
   rw[List.length_take]
   have:=ok.len
   have:=ok.n12
   omega
  have:(((ps.take i).length:Nat):Rat)<=((13:Nat):Rat):=by exact_mod_cast l13
  have e13:(((13:Nat)):Rat)=13:=rfl
  rw[e13] at this
  exact⟨a,Rat.le_trans b this,c⟩
 refine⟨two,λ p hp=>?_⟩
 have s1:=same_new hp (.tup [V.int 0,V.int 1])
 have e1:upd H p (.tup [V.int 0,V.int 1]) p=some (.tup [V.int 0,V.int 1]):=upd_same
 generalize upd H p (.tup [V.int 0,V.int 1])=H1 at *
 refine⟨_,rfl,x,_,1,_,rfl,rfl,SqT.of (s1 _ _ ox),at1,t,rfl,⟨_,SqT.of (s1 _ _ ot)⟩,?_⟩
 refine for_tup (xs:=zs) (λ i σ G=>Same H1 G/\∃ f v1 v2,σ = [some (.ref x),some (.ref f),v1,v2]/\FrA G f (spanR (ps.take i))) ⟨Same.refl H1,p,none,none,rfl,ov_fr D0 D1 (sub 0 (Nat.zero_le _)).2.2 (sub 0 (Nat.zero_le _)).1 (sub 0 (Nat.zero_le _)).2.1 e1⟩ ?_ ?_ ?_
 ·rintro i σ G hi ⟨sm,_⟩
  exact SqT.of ((s1.trans sm) _ _ ot)
 ·rintro i z σ G hz ⟨sm,f,v1,v2,rfl,ff⟩
  have hi:i<ps.length:=by rw[<-lz];exact (List.getElem?_eq_some_iff.mp hz).1
  have ep:=List.getElem?_eq_getElem hi
  obtain⟨b,la,ha,g1,g2,g3,g4⟩:=(row.keep (s1.trans sm)).get ep
  rw[hz] at g1
  cases g1
  refine⟨b,_,rfl,SqT.of g2,rfl,_,_,rfl,_,_,rfl,rfl,?_⟩
  have mem:=List.mem_of_getElem? ep
  obtain⟨u,v,w⟩:=ir.inn _ mem
  obtain⟨o1,o2⟩:=hx.ov _ mem
  refine⟨_,rfl,_,rfl,_,rfl,ha,la,_,_,rfl,g4.fr,g3.fr,λ d G2 s2 hd=>?_⟩
  have fd:=ov_fr D0 D1 (o2.sub o1) (by grind) (by grind) hd
  refine⟨f,d,_,_,rfl,ff.keep s2,fd,λ y G3 s3 hy=>?_⟩
  have et:spanR (ps.take (i+1))=spanR (ps.take i)+(ps[i].2-ps[i].1):=by
   rw[List.take_add_one,ep,spanR_app]
   show spanR (ps.take i)+(0+(ps[i].2-ps[i].1))=_
   grind
  obtain⟨a1,a2,a3⟩:=sub (i+1) hi
  rw[et] at a1 a2 a3
  refine⟨(sm.trans s2).trans s3,y,_,_,rfl,?_⟩
  rw[et]
  exact ov_fr D0 D1 a3 a1 a2 hy
 ·rintro σ G ⟨sm,f,v1,v2,rfl,ff⟩
  rw[lz,List.take_of_length_le (Nat.le_refl _)] at ff
  exact⟨_,rfl,q f G (s1.trans sm) ff⟩
structure KT (K:PySem.W.Frag) (C:CA) (X:Addr):Prop where
 i:XInst K X
 a1:PySem.W.kitOne K (.ref X) (.ref C.NoName)=some false
 a2:PySem.W.kitOne K (.ref X) (.ref C.NoNumber)=some false
 a3:PySem.W.kitOne K (.ref X) (.ref C.NoPlan)=some false
 a4:PySem.W.kitOne K (.ref X) (.ref C.NoRow)=some false
 a5:PySem.W.kitOne K (.ref X) (.ref C.NoRule)=some false
 a6:PySem.W.kitOne K (.ref X) (.ref C.NoText)=some false
 s:PySem.W.kitOne K (.ref X) (.ref C.StretchError)=some true
 v:PySem.W.kitOne K (.ref X) (.type "ValueError")=some true
theorem kt_T {C:CA} (cf:CF K mg C):KT K C C.TooMuch:=⟨cf.iTooMuch,cf.kTooMuchNoName,cf.kTooMuchNoNumber,cf.kTooMuchNoPlan,cf.kTooMuchNoRow,cf.kTooMuchNoRule,cf.kTooMuchNoText,cf.kTooMuchS,cf.kTooMuchV⟩
theorem kt_N {C:CA} (cf:CF K mg C):KT K C C.NotSure:=⟨cf.iNotSure,cf.kNotSureNoName,cf.kNotSureNoNumber,cf.kNotSureNoPlan,cf.kNotSureNoRow,cf.kNotSureNoRule,cf.kNotSureNoText,cf.kNotSureS,cf.kNotSureV⟩
noncomputable def spNoo (C:CA) (K:PySem.W.Frag):Sp:=λ vs H Q _=>∃ (e X:Addr) (dd:Option Addr),vs = [.ref e]/\H e=some (XOD (.ref X) dd e)/\KT K C X/\Q (.bl true) H
theorem sc_noo:FnScope ["_law_error"] ["_law_error"] (defScope s_noo):=⟨rfl,rfl,rfl,by decide +kernel,rfl,by decide +kernel,by decide +kernel⟩
theorem ok_noo {C:CA}{f:Addr}{fd:FuncData} (F:Fun K "_law_no_other" "_law_no_other" s_noo f fd) (T:Txt mg) (cf:CF K mg C):FnOk P w K mg base CX0 1 f fd ["_law_error"] (spNoo C K):=by
 refine F.ok sc_noo (λ vs H Q E h=>?_) (λ cdv A outer s H vs Q E hr h=>?_)
 ·obtain⟨e,X,dd,rfl,_⟩:=h
  rfl
 obtain⟨e,X,dd,rfl,he,k,q⟩:=h
 refine⟨_,(pss_cons (ps_if (PW.pt (pw_or (pt_val (pe_callB call_isinstF rfl T.isinstance boot_isinstance (pa_cons (pv 0) (pa_cons (pe_glob (v:=.ref C.NoName) rfl cf.mNoName rfl) pa_nil)))) (pw_or (pt_val (pe_callB call_isinstF rfl T.isinstance boot_isinstance (pa_cons (pv 0) (pa_cons (pe_glob (v:=.ref C.NoNumber) rfl cf.mNoNumber rfl) pa_nil)))) (pw_or1 (pt_val (pe_callB call_isinstF rfl T.isinstance boot_isinstance (pa_cons (pv 0) (pa_cons (pe_glob (v:=.ref C.NoPlan) rfl cf.mNoPlan rfl) pa_nil)))))))) (pss_one (ps_ret pe_bl)) pss_nil)
  (pss_cons (ps_if (PW.pt (pw_or (pt_val (pe_callB call_isinstF rfl T.isinstance boot_isinstance (pa_cons (pv 0) (pa_cons (pe_glob (v:=.ref C.NoRow) rfl cf.mNoRow rfl) pa_nil)))) (pw_or (pt_val (pe_callB call_isinstF rfl T.isinstance boot_isinstance (pa_cons (pv 0) (pa_cons (pe_glob (v:=.ref C.NoRule) rfl cf.mNoRule rfl) pa_nil)))) (pw_or1 (pt_val (pe_callB call_isinstF rfl T.isinstance boot_isinstance (pa_cons (pv 0) (pa_cons (pe_glob (v:=.ref C.NoText) rfl cf.mNoText rfl) pa_nil)))))))) (pss_one (ps_ret pe_bl)) pss_nil)
  (pss_one (ps_ret (pe_and (pe_callB call_isinstF rfl T.isinstance boot_isinstance (pa_cons (pv 0) (pa_cons (pe_glob (v:=.ref C.StretchError) rfl cf.mStretchError rfl) pa_nil))) (pe_one (pe_callB call_isinstFB rfl T.isinstance boot_isinstance (pa_cons (pv 0) (pa_cons (pe_bltn (v:=.ty "ValueError") rfl T.ValueError boot_ValueError rfl) pa_nil))))))))),?_⟩
 refine⟨_,rfl,e,X,C.NoName,dd,false,rfl,he,k.i,k.a1,_,rfl,iteF ⟨_,rfl,e,X,C.NoNumber,dd,false,rfl,he,k.i,k.a2,_,rfl,iteF ⟨_,rfl,e,X,C.NoPlan,dd,false,rfl,he,k.i,k.a3,_,rfl,iteF ?_⟩⟩⟩
 refine⟨_,rfl,e,X,C.NoRow,dd,false,rfl,he,k.i,k.a4,_,rfl,iteF ⟨_,rfl,e,X,C.NoRule,dd,false,rfl,he,k.i,k.a5,_,rfl,iteF ⟨_,rfl,e,X,C.NoText,dd,false,rfl,he,k.i,k.a6,_,rfl,iteF ?_⟩⟩⟩
 exact⟨_,rfl,e,X,C.StretchError,dd,true,rfl,he,k.i,k.s,_,rfl,iteT ⟨_,rfl,e,X,"ValueError",dd,true,rfl,he,k.i,k.v,q⟩⟩
noncomputable def Tld (C:CA) (D n:Nat) (m:Int) (s:Rat) (ps:List (Rat×Rat)) (H:Hp) (f c:V):Prop :=
 ((6<n∨20<m)/\f=.non/\∃ e,c=.ref e/\H e=some (XOD (.ref C.TooMuch) none e)) ∨
 (n<=6/\m<=20/\s<=bst n ps/\c=.non/\∃ y ps',f=.ref y/\RunQ n s m (eEnds n) ps ps'/\Qa D H y n ps') ∨
 (n<=6/\m<=20/\bst n ps<s/\f=.non/\∃ e dx pa r,c=.ref e/\H e=some (XOD (.ref C.NotSure) (some dx) e)/\H dx=some (.xd [("at",.ref pa)])/\Shp H pa r/\rsumO r n (runOf ps r r)<s)
theorem Tld.keep {C:CA}{D n:Nat}{m:Int}{s:Rat}{ps:List (Rat×Rat)}{H H':Hp}{f c:V} (h:Tld C D n m s ps H f c) (sm:Same H H'):Tld C D n m s ps H' f c:=by
 rcases h with ⟨a,b,e,d1,d2⟩ | ⟨a,b,d,e,y,ps',g1,g2,g3⟩ | ⟨a,b,d,e,x,dx,pa,r,g1,g2,g3,g4,g5⟩
 ·exact .inl ⟨a,b,e,d1,sm _ _ d2⟩
 ·exact .inr (.inl ⟨a,b,d,e,y,ps',g1,g2,g3.keep sm⟩)
 ·exact .inr (.inr ⟨a,b,d,e,x,dx,pa,r,g1,sm _ _ g2,sm _ _ g3,g4.keep sm,g5⟩)
noncomputable def spTld (C:CA) (T:Addr):Sp:=λ vs H Q _=>∃ (x a:Addr) (D n:Nat) (m:Int) (s:Rat) (ps:List (Rat×Rat)) (b:Bool),vs = [.ref x,.ref a,.int m,.bl b]/\Qa D H x n ps/\FrA H a s/\0<m/\m<=1000/\m.toNat ∣ D/\0<D/\D<=1000000/\TbAt T H /\
 (n<=6->m<=20->bst n ps<s->(n:Rat)<=(s-bst n ps)*(2:Rat)^255)/\∀ t f c H',SameT T H H'->H' t=some (.tup [f,c])->Tld C D n m s ps H' f c->Q (.ref t) H'
theorem sc_tld:FnScope ["_law_rule","_law_share_here","_law_measure","_law_base","_law_found","_law_caught","_law_error"] ["_law_rule","_law_share_here","_law_measure","_law_base"] (defScope s_tld):=⟨rfl,rfl,rfl,by decide +kernel,rfl,by decide +kernel,by decide +kernel⟩
theorem ok_tld {C:CA}{f:Addr}{fd:FuncData} (F:Fun K "_law_told" "_law_told" s_tld f fd) (T:Txt mg) (cf:CF K mg C) {ftgt:Addr}{dtgt:FuncData} (Gtgt:FnOk P w K mg base (CXD P w) 14 ftgt dtgt ["rule","share","measure"] (spTgt C TB)) (btgt:Binds K dtgt ["rule","share","measure"] []) (ktgt:PySem.W.keepIn K (.ref ftgt)=true) (mtgt:mg "tight" = some (.ref ftgt)):FnOk P w K mg base CX0 15 f fd ["_law_rule","_law_share_here","_law_measure","_law_base"] (spTld C TB):=by
 refine F.ok sc_tld (λ vs H Q E h=>?_) (λ cdv A outer s H vs Q E hr h=>?_)
 ·obtain⟨x,a,D,n,m,sh,ps,b,rfl,_⟩:=h
  rfl
 obtain⟨x,a,D,n,m,sh,ps,b,rfl,hx,fs,m0,m1,mD,D0,D1,tb,gap,q⟩:=h
 refine⟨_,(pss_cons (ps_set (i:=4) sc_tld.nd rfl (Or.inl rfl) pe_non)
  (pss_cons (ps_set (i:=5) sc_tld.nd rfl (Or.inl rfl) pe_non)
  (pss_cons (ps_if (pt_val (pv 3)) (pss_one (ps_tryD (i:=6) ⟨rfl,rfl,rfl⟩ sc_tld.nd rfl rfl rfl cf.mStretchError cf.cStretchError (λ xe pn E hp=>(pss_one (ps_set (i:=4) sc_tld.nd rfl (Or.inl rfl) (pe_callS Gtgt hr rfl mtgt ktgt btgt .nil hp (pa_cons (pv 0) (pa_cons (pv 1) (pa_cons (pv 2) pa_nil))))))) (λ e oe=>(pss_one (ps_set (i:=5) sc_tld.nd rfl (Or.inl rfl) (pv 6)))))) (pss_one (ps_tryD2 (i:=6) ⟨rfl,rfl,rfl⟩ sc_tld.nd rfl rfl rfl cf.mTooMuch cf.cTooMuch rfl cf.mNotSure cf.cNotSure (λ xe pn E hp=>(pss_one (ps_set (i:=4) sc_tld.nd rfl (Or.inl rfl) (pe_callS Gtgt hr rfl mtgt ktgt btgt .nil hp (pa_cons (pv 0) (pa_cons (pv 1) (pa_cons (pv 2) pa_nil))))))) (λ e oe=>(pss_one (ps_set (i:=5) sc_tld.nd rfl (Or.inl rfl) (pv 6)))) (λ e oe=>(pss_one (ps_set (i:=5) sc_tld.nd rfl (Or.inl rfl) (pv 6)))))))
  (pss_one (ps_ret (pe_tup (pa_cons (pv 4) (pa_cons (pv 5) pa_nil)))))))),?_⟩
 dsimp only
 refine seq_by (λ σ G=>G=H/\σ = [some (.ref x),some (.ref a),some (.int m),some (.bl b),some .non,none,none]) (λ M hM=>hM _ _ ⟨rfl,rfl⟩) ?_
 rintro σ G ⟨rfl,rfl⟩
 refine seq_by (λ σ G'=>G'=G/\σ = [some (.ref x),some (.ref a),some (.int m),some (.bl b),some .non,some .non,none]) (λ M hM=>hM _ _ ⟨rfl,rfl⟩) ?_
 rintro σ G' ⟨rfl,rfl⟩
 refine seq_by (λ σ G2=>SameT TB G' G2/\∃ f c,σ = [some (.ref x),some (.ref a),some (.int m),some (.bl b),some f,some c,none]/\Tld C D n m sh ps G2 f c) ?_ ?_
 ·intro M hM
  refine⟨_,rfl,_,rfl,?_⟩
  have out:∀ {H':Hp}{e:Addr}{o:HO},Same G' H'->H' e=none->SameT TB G' (upd H' e o):=λ {H' e o} sm hn b u _ eb=>by
   rw[upd_ne (ne_of_none (sm _ _ eb) hn)]
   exact sm _ _ eb
  have tT:∀ {H':Hp}{e:Addr},6<n∨20<m->Tld C D n m sh ps (upd H' e (XOD (.ref C.TooMuch) none e)) .non (.ref e):=λ {H' e} c=>.inl ⟨c,rfl,e,rfl,upd_same⟩
  have tN:∀ {H':Hp}{e dx pa:Addr}{r:Rat},n<=6->m<=20->bst n ps<sh->H' e=none->H' dx=some (.xd [("at",.ref pa)])->Shp H' pa r->rsumO r n (runOf ps r r)<sh->Tld C D n m sh ps (upd H' e (XOD (.ref C.NotSure) (some dx) e)) .non (.ref e):=λ {H' e dx pa r} c1 c2 c3 hn hd hs hl =>
   .inr (.inr ⟨c1,c2,c3,rfl,e,dx,pa,r,rfl,upd_same,by rw[upd_ne (ne_of_none hd hn)];exact hd,hs.map (λ b xs eb=>by rw[upd_ne (ne_of_none eb hn)];exact eb),hl⟩)
  cases b with
  | true =>
   refine iteT ⟨_,rfl,_,rfl,_,rfl,x,a,D,n,m,sh,ps,rfl,hx,fs,m0,m1,mD,D0,D1,tb,gap,λ c H' sm=>⟨cf.suTooMuchS,λ e oe hn hoe=>?_⟩,λ c1 c2 c3 ps' y H' run st _ hy=>?_,λ c1 c2 c3 dx pa r H' sm hd hs hl=>⟨cf.suNotSureS,λ e oe hn hoe=>?_⟩⟩
   ·exact⟨_,rfl,hM _ _ ⟨out sm hn,_,_,rfl,tT c⟩⟩
   ·exact hM _ _ ⟨st,_,_,rfl,.inr (.inl ⟨c1,c2,c3,rfl,y,ps',rfl,run,hy⟩)⟩
   ·exact⟨_,rfl,hM _ _ ⟨out sm hn,_,_,rfl,tN c1 c2 c3 hn hd hs hl⟩⟩
  | false =>
   refine iteF ⟨_,rfl,_,rfl,_,rfl,x,a,D,n,m,sh,ps,rfl,hx,fs,m0,m1,mD,D0,D1,tb,gap,λ c H' sm=>⟨true,cf.suTT,(λ z=>by cases z),λ _ e oe hn hoe=>?_,(λ z=>by cases z)⟩,λ c1 c2 c3 ps' y H' run st _ hy=>?_,λ c1 c2 c3 dx pa r H' sm hd hs hl=>⟨false,cf.suNT,(λ _=>cf.suNN),(λ z=>by cases z),λ _ e oe hn hoe=>?_⟩⟩
   ·exact⟨_,rfl,hM _ _ ⟨out sm hn,_,_,rfl,tT c⟩⟩
   ·exact hM _ _ ⟨st,_,_,rfl,.inr (.inl ⟨c1,c2,c3,rfl,y,ps',rfl,run,hy⟩)⟩
   ·exact⟨_,rfl,hM _ _ ⟨out sm hn,_,_,rfl,tN c1 c2 c3 hn hd hs hl⟩⟩
 rintro σ G2 ⟨sG,f,c,rfl,hT⟩
 refine⟨_,rfl,_,rfl,(by show 2<=sizeLine;decide),λ t ht=>?_⟩
 have s2:=same_new ht (.tup [f,c])
 exact q t f c _ (λ b o nb e=>s2 _ _ (sG b o nb e)) upd_same (hT.keep s2)
noncomputable def spLtg:Sp:=λ vs H Q _=>∃ (x a:Addr) (D n:Nat) (m:Int) (s:Rat) (ps:List (Rat×Rat)),vs = [.ref x,.ref a,.int m,.int n]/\Qa D H x n ps/\FrA H a s/\0<m/\m<=1000/\m.toNat ∣ D/\0<D/\D<=1000000/\s<=bst n ps/\(∀ k lo,k<=n->shq n s m ps k lo=none)/\∀ H',Same H H'->Q (.bl true) H'
theorem sc_ltg:FnScope ["_law_found","_law_share_here","_law_measure","_law_n","_law_k","_law_end","_law_other"] ["_law_found","_law_share_here","_law_measure","_law_n"] (defScope s_ltg):=⟨rfl,rfl,rfl,by decide +kernel,rfl,by decide +kernel,by decide +kernel⟩
theorem ok_ltg {f:Addr}{fd:FuncData} (F:Fun K "_law_tight" "_law_tight" s_ltg f fd) (T:Txt mg) {fnm:Addr}{dnm:FuncData} (Gnm:FnOk P w K mg base CX0 9 fnm dnm ["_law_one","_law_other"] spNm) (bnm:Binds K dnm ["_law_one","_law_other"] []) (knm:PySem.W.keepIn K (.ref fnm)=true) (mnm:mg "_law_no_more" = some (.ref fnm)) {fleast:Addr}{dleast:FuncData} (Gleast:FnOk P w K mg base CX0 9 fleast dleast ["rule"] spLeast) (bleast:Binds K dleast ["rule"] []) (kleast:PySem.W.keepIn K (.ref fleast)=true) (mleast:mg "least" = some (.ref fleast)) {fmov:Addr}{dmov:FuncData} (Gmov:FnOk P w K mg base CX0 9 fmov dmov ["rule","k","end","measure"] spMov) (bmov:Binds K dmov ["rule","k","end","measure"] []) (kmov:PySem.W.keepIn K (.ref fmov)=true) (mmov:mg "moved" = some (.ref fmov)):FnOk P w K mg base CX0 10 f fd ["_law_found","_law_share_here","_law_measure","_law_n"] spLtg:=by
 refine F.ok sc_ltg (λ vs H Q E h=>?_) (λ cdv A outer s H vs Q E hr h=>?_)
 ·obtain⟨x,a,D,n,m,s,ps,rfl,_⟩:=h
  rfl
 obtain⟨x,a,D,n,m,sh,ps,rfl,hx,fs,m0,m1,mD,D0,D1,sr,no,q⟩:=h
 refine⟨_,(pss_cons (ps_if (PW.pt (pw_or (pt_cmpR op_ne (pe_ix ix_tup (pv 0) pe_int (λ _ _=>rfl)) (pv 3) (nomark _)) (pw_or1 (pt_not (pt_val (pe_call Gnm hr rfl mnm knm bnm .nil pass0 (pa_cons (pv 1) (pa_cons (pe_ix ix_tup (pe_call Gleast hr rfl mleast kleast bleast .nil pass0 (pa_cons (pv 0) pa_nil)) pe_int (λ _ _=>rfl)) pa_nil)))))))) (pss_one (ps_ret pe_bl)) pss_nil)
  (pss_cons (ps_for PassesOwn.never rfl (pi_range1 rfl T.range (pa_cons (pe_op op_add (pv 3) pe_int) pa_nil)) (pg_name (i:=4) sc_ltg.nd rfl (Or.inl rfl)) (pss_one (ps_for PassesOwn.never rfl (pi_tup (pe_tup (pa_cons pe_str (pa_cons pe_str pa_nil)))) (pg_name (i:=5) sc_ltg.nd rfl (Or.inl rfl)) (pss_cons (ps_set (i:=6) sc_ltg.nd rfl (Or.inl rfl) (pe_call Gmov hr rfl mmov kmov bmov .nil pass0 (pa_cons (pv 0) (pa_cons (pv 4) (pa_cons (pv 5) (pa_cons (pv 2) pa_nil))))))
    (pss_one (ps_if (PW.pt (pw_and (pt_cmpR op_notN (pv 6) pe_non (nomark _)) (pw_and1 (pt_val (pe_call Gnm hr rfl mnm knm bnm .nil pass0 (pa_cons (pv 1) (pa_cons (pe_ix ix_tup (pe_call Gleast hr rfl mleast kleast bleast .nil pass0 (pa_cons (pv 6) pa_nil)) pe_int (λ _ _=>rfl)) pa_nil))))))) (pss_one (ps_ret pe_bl)) pss_nil))))))
  (pss_one (ps_ret pe_bl)))),?_⟩
 obtain⟨t,zs,ox,ot,row⟩:=hx.ru.ob
 have ok:=hx.ru.ok
 have lp:=ok.len
 have n12:=ok.n12
 have szm:Sz 20 m:=Nat.lt_of_le_of_lt (show m.natAbs<=1000 by omega) (by decide)
 dsimp only
 refine seq_by (λ σ G=>Same H G/\σ = [some (.ref x),some (.ref a),some (.int m),some (.int n),none,none,none]) ?_ ?_
 ·intro M hM
  refine⟨_,rfl,x,_,0,_,rfl,rfl,SqT.of ox,at0,_,rfl,rfl,_,rfl,?_⟩
  rw[decide_eq_true rfl]
  refine iteF ⟨_,rfl,_,rfl,x,n,ps,rfl,hx.ru,λ c y t' a' H1 hc s1 hy ft sa=>?_⟩
  refine⟨y,_,0,_,rfl,rfl,SqT.of hy,at0,a,t',_,_,rfl,(fs.keep s1).fq,ft.fq,_,rfl,?_⟩
  rw[decide_eq_true (by rw[<-bst_is hc];exact sr)]
  exact iteF (hM _ _ ⟨s1,rfl⟩)
 rintro σ G ⟨sG,rfl⟩
 refine⟨_,rfl,_,_,rfl,rfl,_,rfl,by omega,by omega,?_⟩
 refine for_range (lo:=0) (λ i σ G1=>Same H G1/\∃ v1 v2 v3,σ = [some (.ref x),some (.ref a),some (.int m),some (.int n),v1,v2,v3]) ⟨sG,none,none,none,rfl⟩ ?_ ?_
 ·rintro i σ G1 hi ⟨s1,v1,v2,v3,rfl⟩
  have ei:(0:Int)+(i:Int)=(i:Int):=by omega
  rw[ei]
  have hk:i<=n:=by omega
  have hkl:i<ps.length:=by omega
  have ep:=List.getElem?_eq_getElem hkl
  have gp:ps.getD i (0,0)=ps[i]:=at_getQ ep
  refine⟨(by show 2<=sizeLine;decide),λ p hp=>?_⟩
  have s2:=s1.trans (same_new hp (.tup [V.str "low",V.str "high"]))
  have e2:upd G1 p (.tup [V.str "low",V.str "high"]) p=some (.tup [V.str "low",V.str "high"]):=upd_same
  generalize upd G1 p (.tup [V.str "low",V.str "high"])=G2 at *
  refine⟨p,rfl,⟨_,SqT.of e2⟩,?_⟩
  refine for_tup (xs:=[V.str "low",V.str "high"]) (λ j σ G3=>Same H G3/\Same G2 G3/\∃ v2 v3,σ = [some (.ref x),some (.ref a),some (.int m),some (.int n),some (.int (i:Int)),v2,v3]) ⟨s2,Same.refl _,v2,v3,rfl⟩ ?_ ?_ ?_
  ·rintro j σ G3 hj ⟨_,s23,_⟩
   exact SqT.of (s23 _ _ e2)
  ·rintro j z σ G3 hz ⟨s3,s23,v2,v3,rfl⟩
   obtain⟨lo,rfl⟩:∃ lo:Bool,z=.str (eS lo):=by
    match j,hz with
    | 0,hz=>cases hz;exact⟨true,rfl⟩
    | 1,hz=>cases hz;exact⟨false,rfl⟩
    | j+2,hz=>simp at hz
   have enx:ps.set i (mvP (eS lo) m ps[i])=nxQ m ps i lo:=by unfold nxQ;rw[mvQ_is,gp]
   have lnx:(nxQ m ps i lo).length=n+1:=by unfold nxQ;rw[List.length_set];exact lp
   have noi:=shqc_of (no i lo hk)
   refine⟨_,rfl,_,rfl,_,rfl,_,rfl,x,t,zs,(n:Int),m,i,eS lo,ps,ps[i],rfl,s3 _ _ ox,s3 _ _ ot,by rw[thL_is];exact dens_row (row.keep s3),by have:=ok.n1;omega,by have:=ok.n12;omega,by rw[lp];rfl,ep,hx.sm D0 D1,m0,szm,λ ir f H1 s4 df=>?_,λ nn H1 s4=>?_⟩
   ·rw[enx] at ir df
    have hf:=qa_of D0 D1 ok.n1 ok.n12 lnx ir (nxQ_ov m0 mD hkl hx.ov) df
    refine⟨_,rfl,rfl,_,rfl,iteT ⟨_,rfl,_,rfl,f,n,_,rfl,hf.ru,λ c y t' a' H2 hc s5 hy ft sa=>?_⟩⟩
    refine⟨y,_,0,_,rfl,rfl,SqT.of hy,at0,a,t',_,_,rfl,(fs.keep ((s3.trans s4).trans s5)).fq,ft.fq,_,rfl,?_⟩
    rw[decide_eq_false (λ z=>noi ⟨ir,by rw[bst_is hc];exact z⟩)]
    exact iteF ⟨(s3.trans s4).trans s5,(s23.trans s4).trans s5,_,_,rfl⟩
   ·exact⟨_,rfl,rfl,_,rfl,iteF (iteF ⟨s3.trans s4,s23.trans s4,_,_,rfl⟩)⟩
  ·rintro σ G3 ⟨s3,_,v2,v3,rfl⟩
   exact⟨s3,_,_,_,rfl⟩
 rintro σ G1 ⟨s1,v1,v2,v3,rfl⟩
 exact q G1 s1
theorem qa_th {D:Nat}{H:Hp}{x:Addr}{n:Nat}{ps:List (Rat×Rat)} (h:Qa D H x n ps):Den H (.tup [.int (n:Int),.tup (ps.map thP)]) (.ref x):=den_rule h.ru
theorem wth_wi {n:Nat}{ps qs:List (Rat×Rat)} (h:WthQ ps qs):wiL qs ps=true:=wiL_true λ i p q hp hq=>by
 have a:=h.low i
 have b:=h.high i
 rw[at_getQ hp,at_getQ hq] at a b
 exact wiB_iff.mpr ⟨a,b⟩
noncomputable def spRgt (C:CA):Sp:=λ vs H Q _=>∃ (x a t la:Addr) (f c:V) (D n:Nat) (m:Int) (s:Rat) (ps:List (Rat×Rat)),vs = [.ref x,.ref a,.int m,.ref t,.ref la]/\Qa D H x n ps/\FrA H a s/\FrA H la (bst n ps)/\0<m/\m<=1000/\m.toNat ∣ D/\0<D/\D<=1000000/\H t=some (.tup [f,c])/\Tld C D n m s ps H f c/\∀ H',Same H H'->Q (.bl true) H'
theorem sc_rgt:FnScope ["_law_rule","_law_share_here","_law_measure","_law_told_here","_law_low","_law_found","_law_caught","_law_at"] ["_law_rule","_law_share_here","_law_measure","_law_told_here","_law_low"] (defScope s_rgt):=⟨rfl,rfl,rfl,by decide +kernel,rfl,by decide +kernel,by decide +kernel⟩
theorem ok_rgt {C:CA}{f:Addr}{fd:FuncData} (F:Fun K "_law_right" "_law_right" s_rgt f fd) (T:Txt mg) (cf:CF K mg C) {fnoo:Addr}{dnoo:FuncData} (Gnoo:FnOk P w K mg base CX0 10 fnoo dnoo ["_law_error"] (spNoo C K)) (bnoo:Binds K dnoo ["_law_error"] []) (knoo:PySem.W.keepIn K (.ref fnoo)=true) (mnoo:mg "_law_no_other" = some (.ref fnoo)) {fnm:Addr}{dnm:FuncData} (Gnm:FnOk P w K mg base CX0 10 fnm dnm ["_law_one","_law_other"] spNm) (bnm:Binds K dnm ["_law_one","_law_other"] []) (knm:PySem.W.keepIn K (.ref fnm)=true) (mnm:mg "_law_no_more" = some (.ref fnm)) {fltg:Addr}{dltg:FuncData} (Gltg:FnOk P w K mg base CX0 10 fltg dltg ["_law_found","_law_share_here","_law_measure","_law_n"] spLtg) (bltg:Binds K dltg ["_law_found","_law_share_here","_law_measure","_law_n"] []) (kltg:PySem.W.keepIn K (.ref fltg)=true) (mltg:mg "_law_tight" = some (.ref fltg)) {fwith:Addr}{dwith:FuncData} (Gwith:FnOk P w K mg base CX0 10 fwith dwith ["one","other"] spWith) (bwith:Binds K dwith ["one","other"] []) (kwith:PySem.W.keepIn K (.ref fwith)=true) (mwith:mg "is_within" = some (.ref fwith)) {fcvr:Addr}{dcvr:FuncData} (Gcvr:FnOk P w K mg base CX0 10 fcvr dcvr ["_law_rule","_law_p"] spCvr) (bcvr:Binds K dcvr ["_law_rule","_law_p"] []) (kcvr:PySem.W.keepIn K (.ref fcvr)=true) (mcvr:mg "_law_cover" = some (.ref fcvr)):FnOk P w K mg base CX0 11 f fd ["_law_rule","_law_share_here","_law_measure","_law_told_here","_law_low"] (spRgt C):=by
 refine F.ok sc_rgt (λ vs H Q E h=>?_) (λ cdv A outer s H vs Q E hr h=>?_)
 ·obtain⟨x,a,t,la,f,c,D,n,m,s,ps,rfl,_⟩:=h
  rfl
 obtain⟨x,a,t,la,f,c,D,n,m,sh,ps,rfl,hx,fs,fl,m0,m1,mD,D0,D1,ht,tl,q⟩:=h
 refine⟨_,(pss_cons (ps_asg (pv 3) (pg_tup rfl (pgs_cons (pg_name (i:=5) sc_rgt.nd rfl (Or.inl rfl)) (pgs_cons (pg_name (i:=6) sc_rgt.nd rfl (Or.inl rfl)) pgs_nil))))
  (pss_cons (ps_if (PW.pt (pw_and (pt_cmpR op_notN (pv 6) pe_non (nomark _)) (pw_and1 (PW.pt (pw_or (pt_cmpR op_notN (pv 5) pe_non (nomark _)) (pw_or1 (pt_not (pt_val (pe_call Gnoo hr rfl mnoo knoo bnoo .nil pass0 (pa_cons (pv 6) pa_nil)))))))))) (pss_one (ps_ret pe_bl)) pss_nil)
  (pss_cons (ps_if (PW.pt (pw_or (pt_cmpR op_gt (pe_ix ix_tup (pv 0) pe_int (λ _ _=>rfl)) pe_int (nomark _)) (pw_or1 (pt_cmpR op_gt (pv 2) pe_int (nomark _))))) (pss_one (ps_ret (pe_and (pe_callB call_isinstF rfl T.isinstance boot_isinstance (pa_cons (pv 6) (pa_cons (pe_glob (v:=.ref C.TooMuch) rfl cf.mTooMuch rfl) pa_nil))) (pe_one (pe_not (pe_callB call_isinstF rfl T.isinstance boot_isinstance (pa_cons (pv 6) (pa_cons (pe_glob (v:=.ref C.NotSure) rfl cf.mNotSure rfl) pa_nil)))))))) pss_nil)
  (pss_cons (ps_if (pt_val (pe_call Gnm hr rfl mnm knm bnm .nil pass0 (pa_cons (pv 1) (pa_cons (pv 4) pa_nil)))) (pss_cons (ps_if (PW.pt (pw_or (pt_cmpR op_notN (pv 6) pe_non (nomark _)) (pw_or (pt_not (pt_val (pe_callB call_isinstD rfl T.isinstance boot_isinstance (pa_cons (pv 5) (pa_cons (pe_bltn (v:=.ty "tuple") rfl T.tuple boot_tuple rfl) pa_nil))))) (pw_or1 (pt_not (pt_val (pe_call Gltg hr rfl mltg kltg bltg .nil pass0 (pa_cons (pv 5) (pa_cons (pv 1) (pa_cons (pv 2) (pa_cons (pe_ix ix_tup (pv 0) pe_int (λ _ _=>rfl)) pa_nil))))))))))) (pss_one (ps_ret pe_bl)) pss_nil)
   (pss_one (ps_ret (pe_call Gwith hr rfl mwith kwith bwith .nil pass0 (pa_cons (pv 5) (pa_cons (pv 0) pa_nil)))))) pss_nil)
  (pss_cons (ps_if (PW.pt (pw_or (pt_not (pt_val (pe_callB call_isinstF rfl T.isinstance boot_isinstance (pa_cons (pv 6) (pa_cons (pe_glob (v:=.ref C.NotSure) rfl cf.mNotSure rfl) pa_nil))))) (pw_or1 (pt_val (pe_callB call_isinstF rfl T.isinstance boot_isinstance (pa_cons (pv 6) (pa_cons (pe_glob (v:=.ref C.TooMuch) rfl cf.mTooMuch rfl) pa_nil))))))) (pss_one (ps_ret pe_bl)) pss_nil)
  (pss_cons (ps_set (i:=7) sc_rgt.nd rfl (Or.inl rfl) (pe_attrX (pv 6) rfl))
  (pss_cons (ps_if (PW.pt (pw_or (pt_not (pt_val (pe_callB call_isinstD rfl T.isinstance boot_isinstance (pa_cons (pv 7) (pa_cons (pe_bltn (v:=.ty "tuple") rfl T.tuple boot_tuple rfl) pa_nil))))) (pw_or (pt_not (pt_val (pe_call Gnm hr rfl mnm knm bnm .nil pass0 (pa_cons (pe_tup (pa_cons pe_int (pa_cons pe_int pa_nil))) (pa_cons (pv 7) pa_nil))))) (pw_or1 (pt_not (pt_val (pe_call Gnm hr rfl mnm knm bnm .nil pass0 (pa_cons (pv 7) (pa_cons (pe_tup (pa_cons pe_int (pa_cons pe_int pa_nil))) pa_nil))))))))) (pss_one (ps_ret pe_bl)) pss_nil)
  (pss_one (ps_ret (pe_not (pe_call Gnm hr rfl mnm knm bnm .nil pass0 (pa_cons (pv 1) (pa_cons (pe_call Gcvr hr rfl mcvr kcvr bcvr .nil pass0 (pa_cons (pv 0) (pa_cons (pv 7) pa_nil))) pa_nil))))))))))))),?_⟩
 obtain⟨tt,zs,ox,ot,row⟩:=hx.ru.ob
 have two:2<=sizeLine:=by decide
 refine⟨_,rfl,t,_,rfl,SqT.of ht,rfl,_,_,rfl,_,_,rfl,rfl,?_⟩
 have t6:∀ (h6:n<=6) (h20:m<=20),decide ((6:Int)<(n:Int))=false/\decide (20<m)=false:=λ h6 h20=>⟨decide_eq_false (by omega),decide_eq_false (by omega)⟩
 rcases tl with ⟨cc,rfl,e,rfl,he⟩ | ⟨c1,c2,c3,rfl,y,ps',rfl,run,hy⟩ | ⟨c1,c2,c3,rfl,e,dx,pa,r,rfl,he,hd,hs,hl⟩
 ·refine⟨_,rfl,rfl,_,rfl,iteT ⟨_,rfl,rfl,_,rfl,iteF ⟨_,rfl,e,C.TooMuch,none,rfl,he,kt_T cf,_,rfl,iteF ?_⟩⟩⟩
  refine⟨_,rfl,x,_,0,_,rfl,rfl,SqT.of ox,at0,_,_,rfl,rfl,_,rfl,?_⟩
  by_cases c6:6<n
  ·rw[decide_eq_true (show (6:Int)<(n:Int) by omega)]
   exact iteT ⟨_,rfl,e,C.TooMuch,C.TooMuch,none,true,rfl,he,cf.iTooMuch,cf.kTooMuchTooMuch,_,rfl,iteT ⟨_,rfl,e,C.TooMuch,C.NotSure,none,false,rfl,he,cf.iTooMuch,cf.kTooMuchNotSure,_,rfl,q H (Same.refl H)⟩⟩
  ·rw[decide_eq_false (show ¬ (6:Int)<(n:Int) by omega)]
   refine iteF ⟨_,rfl,_,_,rfl,rfl,_,rfl,?_⟩
   rw[decide_eq_true (show 20<m by omega)]
   exact iteT ⟨_,rfl,e,C.TooMuch,C.TooMuch,none,true,rfl,he,cf.iTooMuch,cf.kTooMuchTooMuch,_,rfl,iteT ⟨_,rfl,e,C.TooMuch,C.NotSure,none,false,rfl,he,cf.iTooMuch,cf.kTooMuchNotSure,_,rfl,q H (Same.refl H)⟩⟩
 ·have ir:=hx.ru.isr
  obtain⟨noM,irM,srM,wiM⟩:=madeQ m0 hx.ru.ok.n1 hx.ru.ok.n12 run ir c3 hx.ru.ok.len
  obtain⟨d1,d2⟩:=t6 c1 c2
  refine⟨_,rfl,rfl,_,rfl,iteF (iteF ⟨_,rfl,x,_,0,_,rfl,rfl,SqT.of ox,at0,_,_,rfl,rfl,_,rfl,?_⟩)⟩
  rw[d1]
  refine iteF ⟨_,rfl,_,_,rfl,rfl,_,rfl,?_⟩
  rw[d2]
  refine iteF ⟨_,rfl,_,rfl,a,la,_,_,rfl,fs.fq,fl.fq,_,rfl,?_⟩
  rw[decide_eq_true c3]
  refine iteT ⟨_,rfl,rfl,_,rfl,iteF ⟨_,rfl,.ref y,_,_,_,rfl,qa_th hy,kit_tuple _,_,rfl,iteF ⟨_,rfl,_,rfl,_,rfl,_,rfl,x,_,0,_,rfl,rfl,SqT.of ox,at0,y,a,D,n,m,sh,ps',rfl,hy,fs,m0,m1,mD,D0,D1,srM,noM,λ H1 s1=>⟨_,rfl,iteF ?_⟩⟩⟩⟩
  refine⟨_,rfl,_,rfl,y,x,n,ps',ps,rfl,(hy.keep s1).ru,(hx.keep s1).ru,λ H2 s2=>?_⟩
  rw[wth_wi (n:=n) wiM]
  exact q _ (s1.trans s2)
 ·obtain⟨d1,d2⟩:=t6 c1 c2
  have one_fr:∀ {G:Hp}{p:Addr},G p=some (.tup [V.int 1,V.int 1])->FrA G p 1:=λ {G p} e=>⟨e,(Sz.mono (n:=4400) (show (1:Int).natAbs<2^4 from by decide) (by decide)),(Sz.mono (n:=4400) (show (1:Int).natAbs<2^4 from by decide) (by decide))⟩
  have zero_fr:∀ {G:Hp}{p:Addr},G p=some (.tup [V.int 0,V.int 1])->FrA G p 0:=λ {G p} e=>⟨e,(Sz.mono (n:=4400) (show (0:Int).natAbs<2^4 from by decide) (by decide)),(Sz.mono (n:=4400) (show (1:Int).natAbs<2^4 from by decide) (by decide))⟩
  refine⟨_,rfl,rfl,_,rfl,iteT ⟨_,rfl,rfl,_,rfl,iteF ⟨_,rfl,e,C.NotSure,some dx,rfl,he,kt_N cf,_,rfl,iteF ?_⟩⟩⟩
  refine⟨_,rfl,x,_,0,_,rfl,rfl,SqT.of ox,at0,_,_,rfl,rfl,_,rfl,?_⟩
  rw[d1]
  refine iteF ⟨_,rfl,_,_,rfl,rfl,_,rfl,?_⟩
  rw[d2]
  refine iteF ⟨_,rfl,_,rfl,a,la,_,_,rfl,fs.fq,fl.fq,_,rfl,?_⟩
  rw[decide_eq_false (show ¬ sh<=bst n ps by grind)]
  refine iteF ⟨_,rfl,e,C.NotSure,C.NotSure,some dx,true,rfl,he,cf.iNotSure,cf.kNotSureNotSure,_,rfl,iteF ⟨_,rfl,e,C.NotSure,C.TooMuch,some dx,false,rfl,he,cf.iNotSure,cf.kNotSureTooMuch,_,rfl,iteF ?_⟩⟩
  refine⟨_,rfl,e,C.NotSure,dx,_,_,rfl,he,hd,cf.gNotSure,rfl,?_⟩
  refine⟨_,rfl,.ref pa,_,_,_,rfl,den_p hs.ob,kit_tuple _,_,rfl,iteF ⟨two,λ p hp=>⟨_,rfl,p,pa,0,r,rfl,(zero_fr upd_same).fq,(hs.keep (same_new hp _)).fq,_,rfl,?_⟩⟩⟩
  rw[decide_eq_true hs.lo]
  have s1:=same_new hp (.tup [V.int 0,V.int 1])
  generalize upd H p (.tup [V.int 0,V.int 1])=H1 at *
  refine iteF ⟨_,rfl,two,λ p2 hp2=>⟨pa,p2,r,1,rfl,(hs.keep (s1.trans (same_new hp2 _))).fq,(one_fr upd_same).fq,_,rfl,?_⟩⟩
  rw[decide_eq_true hs.hi]
  have s2:=s1.trans (same_new hp2 (.tup [V.int 1,V.int 1]))
  generalize upd H1 p2 (.tup [V.int 1,V.int 1])=H2 at *
  refine iteF ⟨_,rfl,_,rfl,_,rfl,n,x,ps,pa,r,rfl,(hx.keep s2).ru,(hs.keep s2).pq,λ z H3 s3 fz=>⟨a,z,sh,_,rfl,(fs.keep (s2.trans s3)).fq,fz,?_⟩⟩
  rw[decide_eq_false (show ¬ sh<=rsumO r n (runOf ps r r) by grind)]
  exact⟨_,rfl,q _ (s2.trans s3)⟩
theorem psO_snoc (m:Int) (ls hs:List Int) (i:Nat):psO m ls hs (i+1)=psO m ls hs i++[(rq (ls.getD i 0) m,rq (hs.getD i 0) m)]:=by
 unfold psO
 rw[List.range_succ,List.map_append]<;>rfl
noncomputable def dSum (ls hs:List Int):Nat->Int
 | 0=>0
 | i+1=>dSum ls hs i+(hs.getD i 0-ls.getD i 0)
theorem rq_add {a b m:Int} (hm:0<m):rq (a+b) m=rq a m+rq b m:=by
 have e1:=rq_mul (t:=a) hm
 have e2:=rq_mul (t:=b) hm
 have e3:=rq_mul (t:=a+b) hm
 have bp:(0:Rat)<(m:Rat):=by exact_mod_cast hm
 rw[Rat.intCast_add] at e3
 have k:(rq (a+b) m-(rq a m+rq b m))*(m:Rat)=0:=by grind
 rcases Rat.mul_eq_zero.mp k with z | z
 ·grind
 ·rw[z] at bp;exact absurd bp (by decide +kernel)
theorem rq_sub {a b m:Int} (hm:0<m):rq (a-b) m=rq a m-rq b m:=by
 have:=rq_add (a:=a-b) (b:=b) hm
 rw[show a-b+b=a by omega] at this
 grind
theorem span_psO {m:Int} (hm:0<m) (ls hs:List Int):∀ i,spanR (psO m ls hs i)=rq (dSum ls hs i) m
 | 0=>by
  show (0:Rat)=rq 0 m
  have e:=rq_mul (t:=0) hm
  have bp:(0:Rat)<(m:Rat):=by exact_mod_cast hm
  have e':rq 0 m*(m:Rat)=0:=e
  rcases Rat.mul_eq_zero.mp e' with z | z
  ·exact z.symm
  ·rw[z] at bp;exact absurd bp (by decide +kernel)
 | i+1=>by
  have ih:=span_psO hm ls hs i
  rw[psO_snoc,spanR_app,ih]
  show rq (dSum ls hs i) m+(0+(rq (hs.getD i 0) m-rq (ls.getD i 0) m))=rq (dSum ls hs i+(hs.getD i 0-ls.getD i 0)) m
  rw[rq_add hm,rq_sub hm]
  grind
theorem span_wth:∀ {ps qs:List (Rat×Rat)},WthQ ps qs->spanR qs<=spanR ps
 | [],[],_=>Rat.le_refl
 | [],_::_,h=>by have:=h.len;simp at this
 | _::_,[],h=>by have:=h.len;simp at this
 | p::ps,q::qs,h=>by
  have ih:=span_wth (ps:=ps) (qs:=qs) ⟨by have:=h.len;simpa using this,λ k=>h.low (k+1),λ k=>h.high (k+1)⟩
  have a:=h.low 0
  have b:=h.high 0
  have a':p.1<=q.1:=a
  have b':q.2<=p.2:=b
  show spanR qs+(q.2-q.1)<=spanR ps+(p.2-p.1)
  grind
theorem zsL_at {ls hs:List Int}{m i:Nat} (h:i<m):(zsL ls hs m)[i]? = some (ls.getD i 0,hs.getD i 0):=by
 unfold zsL
 rw[List.getElem?_map,List.getElem?_range h]
 rfl
theorem lhm_isr {m:Int}{n:Nat}{ls hs:List Int} (h:LHm m n ls hs) (m1:0<m):IsR (psO m ls hs (n+1)):=by
 have at_:∀ i,i<n+1->(psO m ls hs (n+1)).getD i (0,0)=(rq (ls.getD i 0) m,rq (hs.getD i 0) m):=λ i hi=>by
  unfold psO
  rw[List.getD,List.getElem?_map,List.getElem?_range hi]
  rfl
 have ln:(psO m ls hs (n+1)).length=n+1:=by unfold psO;simp
 refine isr_mk (λ i hi=>?_) (λ i hi=>?_)
 ·rw[at_ i (by omega)]
  have a:=h.b1 i (by omega)
  have b:=h.b2 i (by omega)
  exact⟨(rq_unit a.1 a.2 m1).1,rq_le m1 (h.le i (by omega)),(rq_unit b.1 b.2 m1).2⟩
 ·rw[at_ i (by omega),at_ (i+1) (by omega)]
  exact⟨rq_le m1 (h.u1 i (by omega)),rq_le m1 (h.u2 i (by omega))⟩
theorem psO_ov {m:Int}{M:Nat} (e:m=(M:Int)) (m1:0<m) (ls hs:List Int) (n:Nat):∀ p∈psO m ls hs n,Ov M p.1/\Ov M p.2:=λ p hp=>by
 unfold psO at hp
 obtain⟨k,_,rfl⟩:=List.mem_map.mp hp
 exact⟨rq_ov e m1,rq_ov e m1⟩
theorem bst_sz {n M:Nat}{ps:List (Rat×Rat)} (n12:n<=12) (M0:0<M) (M30:M<=30) (ir:IsR ps) (ov:∀ p∈ps,Ov M p.1/\Ov M p.2) {c:Cd} (hc:bestC n (allPc ps)=some c):0<=c.1/\c.1<=1/\Sz 120 (c.1.den:Int):=by
 obtain⟨k,a,b,ea,eb,hcc⟩:=best_at hc
 obtain⟨i1,i2⟩:=edg_ok (rimL ps)
 have ma:=(i2 a).mp (List.mem_of_getElem? ea)
 have mb:=(i2 b).mp (List.mem_of_getElem? eb)
 have pin:=isr_pin ir
 have ovr:∀ y∈rimL ps,Ov M y:=λ y hy=>by
  unfold rimL at hy
  simp only[List.mem_cons,List.mem_flatMap,List.not_mem_nil,or_false] at hy
  rcases hy with rfl | rfl | ⟨p,hp,hx⟩
  ·exact⟨0,by show (0:Rat)*_=((0:Int):Rat);grind⟩
  ·exact Ov.one M
  ·rcases hx with rfl | rfl
   ·exact (ov p hp).1
   ·exact (ov p hp).2
 have go:∀ y∈rimL ps,∀ r,0<=rsumO y n r/\rsumO y n r<=1/\Sz 120 ((rsumO y n r).den:Int):=λ y hy r=>by
  obtain⟨u0,u1⟩:=rsumO_unit (n:=n) (pin y hy).1 (pin y hy).2 r
  refine⟨u0,u1,?_⟩
  have d:=(rsumO_ov (ovr y hy) n r).dvd
  have d1:=Nat.le_of_dvd (Nat.pow_pos M0) d
  have d2:M^n<=30^12:=Nat.le_trans (Nat.pow_le_pow_left M30 n) (Nat.pow_le_pow_right (by decide) n12)
  exact Nat.lt_of_le_of_lt (show ((rsumO y n r).den:Int).natAbs<=30^12 by omega) (by decide)
 rcases hcc with rfl | rfl
 ·exact go a ma _
 ·exact go b mb _
theorem qa_up {D E:Nat} (h:D ∣ E) {H:Hp}{x:Addr}{n:Nat}{ps:List (Rat×Rat)} (q:Qa D H x n ps):Qa E H x n ps:=⟨q.ru,λ p hp=>⟨(q.ov p hp).1.up h,(q.ov p hp).2.up h⟩⟩
noncomputable def spLaw (K:PySem.W.Frag) (T:Addr):Sp:=λ vs H Q _=>∃ (a:Addr) (ns:List Int),vs = [.ref a]/\SqL K H a (ns.map V.int)/\ns.length<=63/\(∀ i∈ns,Bg i)/\H T=some (.tbl #[])/\∀ H',Q (.bl true) H'
theorem sc_law:FnScope ["_law_script","_law_first","_law_n","_law_measure","_law_steps_here","_law_parts","_law_rule","_law_low","_law_share_here","_law_cell","_law_second","_law_told_here","_law_whole"] ["_law_script"] (defScope s_law):=⟨rfl,rfl,rfl,by decide +kernel,rfl,by decide +kernel,by decide +kernel⟩
theorem ok_law {C:CA}{f:Addr}{fd:FuncData} (F:Fun K "law" "law" s_law f fd) (T:Txt mg) (cf:CF K mg C) {fcell:Addr}{dcell:FuncData} (Gcell:FnOk P w K mg base CX0 15 fcell dcell ["_law_script","_law_k"] (spCell K)) (bcell:Binds K dcell ["_law_script","_law_k"] []) (kcell:PySem.W.keepIn K (.ref fcell)=true) (mcell:mg "_law_cell_at" = some (.ref fcell)) {fstp:Addr}{dstp:FuncData} (Gstp:FnOk P w K mg base CX0 15 fstp dstp ["_law_script","_law_n","_law_measure"] (spStp K)) (bstp:Binds K dstp ["_law_script","_law_n","_law_measure"] []) (kstp:PySem.W.keepIn K (.ref fstp)=true) (mstp:mg "_law_steps" = some (.ref fstp)) {flow:Addr}{dlow:FuncData} (Glow:FnOk P w K mg base CX0 15 flow dlow ["_law_top","_law_bottom"] spLw) (blow:Binds K dlow ["_law_top","_law_bottom"] []) (klow:PySem.W.keepIn K (.ref flow)=true) (mlow:mg "_law_lowest" = some (.ref flow)) {fruleof:Addr}{druleof:FuncData} (Gruleof:FnOk P w K mg base (CXX P w) 15 fruleof druleof ["n","stretches"] (spRuX C)) (bruleof:Binds K druleof ["n","stretches"] []) (kruleof:PySem.W.keepIn K (.ref fruleof)=true) (mruleof:mg "rule_of" = some (.ref fruleof)) {fleast:Addr}{dleast:FuncData} (Gleast:FnOk P w K mg base CX0 15 fleast dleast ["rule"] spLeast) (bleast:Binds K dleast ["rule"] []) (kleast:PySem.W.keepIn K (.ref fleast)=true) (mleast:mg "least" = some (.ref fleast)) {flsh:Addr}{dlsh:FuncData} (Glsh:FnOk P w K mg base CX0 15 flsh dlsh ["_law_script","_law_low"] (spLsh K)) (blsh:Binds K dlsh ["_law_script","_law_low"] []) (klsh:PySem.W.keepIn K (.ref flsh)=true) (mlsh:mg "_law_share" = some (.ref flsh)) {ftld:Addr}{dtld:FuncData} (Gtld:FnOk P w K mg base CX0 15 ftld dtld ["_law_rule","_law_share_here","_law_measure","_law_base"] (spTld C TB)) (btld:Binds K dtld ["_law_rule","_law_share_here","_law_measure","_law_base"] []) (ktld:PySem.W.keepIn K (.ref ftld)=true) (mtld:mg "_law_told" = some (.ref ftld)) {frgt:Addr}{drgt:FuncData} (Grgt:FnOk P w K mg base CX0 15 frgt drgt ["_law_rule","_law_share_here","_law_measure","_law_told_here","_law_low"] (spRgt C)) (brgt:Binds K drgt ["_law_rule","_law_share_here","_law_measure","_law_told_here","_law_low"] []) (krgt:PySem.W.keepIn K (.ref frgt)=true) (mrgt:mg "_law_right" = some (.ref frgt)) {fspn:Addr}{dspn:FuncData} (Gspn:FnOk P w K mg base CX0 15 fspn dspn ["rule"] spSpn) (bspn:Binds K dspn ["rule"] []) (kspn:PySem.W.keepIn K (.ref fspn)=true) (mspn:mg "span" = some (.ref fspn)) {fnm:Addr}{dnm:FuncData} (Gnm:FnOk P w K mg base CX0 15 fnm dnm ["_law_one","_law_other"] spNm) (bnm:Binds K dnm ["_law_one","_law_other"] []) (knm:PySem.W.keepIn K (.ref fnm)=true) (mnm:mg "_law_no_more" = some (.ref fnm)):FnOk P w K mg base CX0 16 f fd ["_law_script"] (spLaw K TB):=by
 refine F.ok sc_law (λ vs H Q E h=>?_) (λ cdv A outer s H vs Q E hr h=>?_)
 ·obtain⟨a,ns,rfl,_⟩:=h
  rfl
 obtain⟨a,ns,rfl,hS,h63,hbg,hTB,q⟩:=h
 refine⟨_,(pss_cons (ps_set (i:=1) sc_law.nd rfl (Or.inl rfl) (pe_call Gcell hr rfl mcell kcell bcell .nil pass0 (pa_cons (pv 0) (pa_cons pe_int pa_nil))))
  (pss_cons (ps_set (i:=2) sc_law.nd rfl (Or.inl rfl) (pe_op op_add pe_int (pe_op op_mod (pv 1) pe_int)))
  (pss_cons (ps_if (pt_cmpR op_eq (pe_op op_mod (pe_op op_fdiv (pv 1) pe_int) pe_int) pe_int (nomark _)) (pss_one (ps_set (i:=2) sc_law.nd rfl (Or.inl rfl) (pe_op op_add pe_int (pe_op op_mod (pv 1) pe_int)))) pss_nil)
  (pss_cons (ps_if (pt_cmpR op_eq (pe_op op_mod (pe_op op_fdiv (pv 1) pe_int) pe_int) pe_int (nomark _)) (pss_one (ps_set (i:=2) sc_law.nd rfl (Or.inl rfl) (pe_op op_add pe_int (pe_op op_mod (pv 1) pe_int)))) pss_nil)
  (pss_cons (ps_set (i:=3) sc_law.nd rfl (Or.inr rfl) (pe_op op_add pe_int (pe_op op_mod (pe_call Gcell hr rfl mcell kcell bcell .nil pass0 (pa_cons (pv 0) (pa_cons pe_int pa_nil))) pe_int)))
  (pss_cons (ps_if (pt_cmpR op_lt (pv 2) pe_int (nomark _)) (pss_one (ps_set (i:=3) sc_law.nd rfl (Or.inr rfl) (pe_op op_add pe_int (pe_op op_mod (pv 3) pe_int)))) pss_nil)
  (pss_cons (ps_set (i:=4) sc_law.nd rfl (Or.inl rfl) (pe_call Gstp hr rfl mstp kstp bstp .nil pass0 (pa_cons (pv 0) (pa_cons (pv 2) (pa_cons (pv 3) pa_nil)))))
  (pss_cons (ps_setC (i:=5) sc_law.nd rfl (Or.inl rfl) (xs:=["_law_low","_law_high"]) (ts:=[("_law_measure",3)]) rfl ⟨rfl,sub1 rfl,rfl,rfl,rfl,by decide +kernel,rfl,rfl⟩ (pi_list (pv 4)) (λ C s3 H3 fp=>(pg_tupC (n:=2) rfl (pgs_cons (pg_name (i:=0) (show (["_law_low","_law_high","_law_measure"]:List Str).Nodup by decide +kernel) rfl (Or.inl rfl) (Or.inr rfl)) (pgs_cons (pg_name (i:=1) (show (["_law_low","_law_high","_law_measure"]:List Str).Nodup by decide +kernel) rfl (Or.inl rfl) (Or.inr rfl)) pgs_nil)))) (λ C s3 H3 fp=>pif_nil) (λ C s3 H3 fp=>(pe_tup (pa_cons (pe_call Glow hr rfl mlow klow blow .nil pass0 (pa_cons (pv 0) (pa_cons (pv 2) pa_nil))) (pa_cons (pe_call Glow hr rfl mlow klow blow .nil pass0 (pa_cons (pv 1) (pa_cons (pv 2) pa_nil))) pa_nil)))))
  (pss_cons (ps_set (i:=6) sc_law.nd rfl (Or.inl rfl) (pe_call Gruleof hr rfl mruleof kruleof bruleof .nil passN (pa_cons (pv 2) (pa_cons (pv 5) pa_nil))))
  (pss_cons (ps_set (i:=7) sc_law.nd rfl (Or.inl rfl) (pe_ix ix_tup (pe_call Gleast hr rfl mleast kleast bleast .nil pass0 (pa_cons (pv 6) pa_nil)) pe_int (λ _ _=>rfl)))
  (pss_cons (ps_set (i:=8) sc_law.nd rfl (Or.inl rfl) (pe_call Glsh hr rfl mlsh klsh blsh .nil pass0 (pa_cons (pv 0) (pa_cons (pv 7) pa_nil))))
  (pss_cons (ps_set (i:=9) sc_law.nd rfl (Or.inl rfl) (pe_call Gcell hr rfl mcell kcell bcell .nil pass0 (pa_cons (pv 0) (pa_cons pe_int pa_nil))))
  (pss_cons (ps_set (i:=10) sc_law.nd rfl (Or.inl rfl) (pe_op op_add pe_int (pe_op op_mod (pe_op op_fdiv (pv 9) pe_int) (pe_ix ix_list (pe_lst (pa_cons pe_int (pa_cons pe_int pa_nil))) (pe_op op_mod (pv 9) pe_int) (λ _ _=>rfl)))))
  (pss_cons (ps_if (PW.pt (pw_or (pt_cmpR op_eq (pv 2) pe_int (nomark _)) (pw_or1 (pt_cmpR op_eq (pv 2) pe_int (nomark _))))) (pss_one (ps_set (i:=10) sc_law.nd rfl (Or.inl rfl) (pe_op op_add pe_int (pe_op op_mod (pe_op op_fdiv (pv 9) pe_int) pe_int)))) pss_nil)
  (pss_cons (ps_if (pt_cmpR op_eq (pe_op op_mod (pe_op op_fdiv (pv 9) pe_int) pe_int) pe_int (nomark _)) (pss_one (ps_set (i:=10) sc_law.nd rfl (Or.inl rfl) (pe_ix ix_list (pe_lst (pa_cons (pe_op op_add pe_int (pe_op op_mod (pe_op op_fdiv (pv 9) pe_int) pe_int)) (pa_cons pe_int pa_nil))) (pe_callTy call_int1 rfl T.int boot_int (pa_cons (pe_cmpR op_gt (pv 2) pe_int (nomark _)) pa_nil)) (λ _ _=>rfl)))) pss_nil)
  (pss_cons (ps_set (i:=11) sc_law.nd rfl (Or.inl rfl) (pe_call Gtld hr rfl mtld ktld btld .nil pass0 (pa_cons (pv 6) (pa_cons (pv 8) (pa_cons (pv 10) (pa_cons (pe_cmpR op_eq (pe_op op_mod (pe_op op_fdiv (pv 1) pe_int) pe_int) pe_int (nomark _)) pa_nil))))))
  (pss_cons (ps_if (pt_not (pt_val (pe_call Grgt hr rfl mrgt krgt brgt .nil pass0 (pa_cons (pv 6) (pa_cons (pv 8) (pa_cons (pv 10) (pa_cons (pv 11) (pa_cons (pv 7) pa_nil)))))))) (pss_one (ps_ret pe_bl)) pss_nil)
  (pss_cons (ps_set (i:=12) sc_law.nd rfl (Or.inl rfl) (pe_call Gspn hr rfl mspn kspn bspn .nil pass0 (pa_cons (pv 6) pa_nil)))
  (pss_cons (ps_if (pt_cmpR (op_neD hr.units) (pv 12) (pe_call Glow hr rfl mlow klow blow .nil pass0 (pa_cons (pe_callB (call_sum rfl) rfl T.sum boot_sum (pa_cons (pe_compG (xs:=["_law_low","_law_high"]) (ts:=[]) rfl ⟨rfl,sub0,rfl,rfl,rfl,by decide +kernel,rfl,rfl⟩ (pi_list (pv 4)) (λ C s3 H3 fp=>(pg_tupC (n:=2) rfl (pgs_cons (pg_name (i:=0) (show (["_law_low","_law_high"]:List Str).Nodup by decide +kernel) rfl (Or.inl rfl) (Or.inr rfl)) (pgs_cons (pg_name (i:=1) (show (["_law_low","_law_high"]:List Str).Nodup by decide +kernel) rfl (Or.inl rfl) (Or.inr rfl)) pgs_nil)))) (λ C s3 H3 fp=>pif_nil) (λ C s3 H3 fp=>(pe_op op_sub (pv 1) (pv 0)))) pa_nil)) (pa_cons (pv 3) pa_nil))) (nomark _)) (pss_one (ps_ret pe_bl)) pss_nil)
  (pss_one (ps_ret (pe_or (pe_cmpR op_isN (pe_ix ix_tup (pv 11) pe_int (λ _ _=>rfl)) pe_non (nomark _)) (pe_one (pe_call Gnm hr rfl mnm knm bnm .nil pass0 (pa_cons (pe_call Gspn hr rfl mspn kspn bspn .nil pass0 (pa_cons (pe_ix ix_tup (pv 11) pe_int (λ _ _=>rfl)) pa_nil)) (pa_cons (pv 12) pa_nil)))))))))))))))))))))))))),?_⟩
 have tb0:TbAt TB H:=⟨#[],hTB,trivial,.inl rfl⟩
 have two:2<=sizeLine:=by decide
 refine⟨_,rfl,a,ns,0,rfl,hS,by decide,?_⟩
 generalize ns.getD (0:Int).toNat 0=c0
 dsimp only
 refine seq_by (λ σ G=>G=H/\∃ n:Nat,σ = [some (.ref a),some (.int c0),some (.int n),none,none,none,none,none,none,none,none,none,none]/\1<=n/\n<=12) ?_ ?_
 ·intro M hM
  refine⟨_,rfl,_,_,rfl,rfl,(by show (0:Int)<4;decide),_,_,rfl,rfl,hM _ _ ⟨rfl,(1+c0%4).toNat,?_,?_⟩⟩
  ·have:=md0 c0 (show (0:Int)<4 by decide)
   rw[show (((1+c0%4).toNat:Nat):Int)=1+c0%4 by omega]
   rfl
  ·have:=md0 c0 (show (0:Int)<4 by decide)
   have:=md1 c0 (show (0:Int)<4 by decide)
   omega
 rintro σ G ⟨rfl,n0,rfl,n01,n02⟩
 refine seq_by (λ σ G'=>G'=G/\∃ n:Nat,σ = [some (.ref a),some (.int c0),some (.int n),none,none,none,none,none,none,none,none,none,none]/\1<=n/\n<=12) ?_ ?_
 ·intro M hM
  refine⟨_,rfl,_,_,rfl,rfl,⟨by decide,by decide⟩,_,_,rfl,rfl,(by show (0:Int)<2;decide),rfl,_,rfl,?_⟩
  refine ite2 (λ d=>?_) (λ d=>hM _ _ ⟨rfl,n0,rfl,n01,n02⟩)
  refine⟨_,rfl,_,_,rfl,rfl,(by show (0:Int)<6;decide),_,_,rfl,rfl,hM _ _ ⟨rfl,(7+c0%6).toNat,?_,?_⟩⟩
  ·have:=md0 c0 (show (0:Int)<6 by decide)
   rw[show (((7+c0%6).toNat:Nat):Int)=7+c0%6 by omega]
   rfl
  ·have:=md0 c0 (show (0:Int)<6 by decide)
   have:=md1 c0 (show (0:Int)<6 by decide)
   omega
 rintro σ G ⟨rfl,n0',rfl,n01',n02'⟩
 refine seq_by (λ σ G'=>G'=G/\∃ n:Nat,σ = [some (.ref a),some (.int c0),some (.int n),none,none,none,none,none,none,none,none,none,none]/\1<=n/\n<=12) ?_ ?_
 ·intro M hM
  refine⟨_,rfl,_,_,rfl,rfl,⟨by decide,by decide⟩,_,_,rfl,rfl,(by show (0:Int)<8;decide),rfl,_,rfl,?_⟩
  refine ite2 (λ d=>?_) (λ d=>hM _ _ ⟨rfl,n0',rfl,n01',n02'⟩)
  refine⟨_,rfl,_,_,rfl,rfl,(by show (0:Int)<2;decide),_,_,rfl,rfl,hM _ _ ⟨rfl,(5+c0%2).toNat,?_,?_⟩⟩
  ·have:=md0 c0 (show (0:Int)<2 by decide)
   rw[show (((5+c0%2).toNat:Nat):Int)=5+c0%2 by omega]
   rfl
  ·have:=md0 c0 (show (0:Int)<2 by decide)
   have:=md1 c0 (show (0:Int)<2 by decide)
   omega
 rintro σ G ⟨rfl,n,rfl,n1,n12⟩
 refine seq_by (λ σ G'=>G'=G/\∃ m:Nat,σ = [some (.ref a),some (.int c0),some (.int n),some (.int (m:Int)),none,none,none,none,none,none,none,none,none]/\1<=m/\m<=30) ?_ ?_
 ·intro M hM
  refine⟨_,rfl,a,ns,1,rfl,hS,by decide,_,_,rfl,rfl,(by show (0:Int)<30;decide),_,_,rfl,rfl,?_⟩
  generalize ns.getD (1:Int).toNat 0=c1
  have k0:=md0 c1 (show (0:Int)<30 by decide)
  have k1:=md1 c1 (show (0:Int)<30 by decide)
  refine hM _ _ ⟨rfl,(1+c1%30).toNat,?_,by omega,by omega⟩
  rw[show (((1+c1%30).toNat:Nat):Int)=1+c1%30 by omega]
  rfl
 rintro σ G ⟨rfl,m0,rfl,m01,m02⟩
 refine seq_by (λ σ G'=>G'=G/\∃ m:Nat,σ = [some (.ref a),some (.int c0),some (.int n),some (.int (m:Int)),none,none,none,none,none,none,none,none,none]/\1<=m/\m<=30) ?_ ?_
 ·intro M hM
  refine⟨_,rfl,_,_,rfl,rfl,_,rfl,?_⟩
  refine ite2 (λ d=>?_) (λ d=>hM _ _ ⟨rfl,m0,rfl,m01,m02⟩)
  refine⟨_,rfl,_,_,rfl,rfl,(by show (0:Int)<10;decide),_,_,rfl,rfl,hM _ _ ⟨rfl,1+m0%10,?_,by omega,by omega⟩⟩
  rw[show (((1+m0%10:Nat)):Int)=1+(m0:Int)%10 by omega]
  rfl
 rintro σ G ⟨rfl,M,rfl,M1,M30⟩
 have Mp:(0:Int)<(M:Int):=by omega
 refine⟨_,rfl,_,rfl,_,rfl,a,ns,n,(M:Int),rfl,hS,n1,n12,by omega,by omega,λ l zs H1 ls hs s1 hl row lh=>?_⟩
 have lz:=row.len
 have lzs:(zsL ls hs (n+1)).length=n+1:=by unfold zsL;simp
 have zM:Sz 6 (M:Int):=Nat.lt_of_le_of_lt (show (M:Int).natAbs<=30 by omega) (by decide)
 have pairs:∀ (G:Hp),Same H1 G->∀ (i:Nat),i<zs.length->∃ b u v,zs[i]? = some (.ref b)/\G b=some (.tup [u,v]):=λ G sm i hi=>by
  obtain⟨b,f1,f2⟩:=(row.keep sm).get (zsL_at (ls:=ls) (hs:=hs) (show i<n+1 by omega))
  exact⟨b,_,_,f1,f2⟩
 refine⟨_,rfl,l,rfl,⟨_,SqL.of hl⟩,λ D hD=>?_⟩
 refine comp_lpairR (λ i ys G'=>RowP G' (psO (M:Int) ls hs i) ys) hD (SqL.of hl) (Nat.le_of_lt (lt40 (by omega))) rfl (pairs H1 (Same.refl _)) ?_ ?_
 ·intro i b u v ys G1 kk hb hbt sm hD3 r hk
  have hi:=(List.getElem?_eq_some_iff.mp hb).1
  obtain⟨b',f1,f2⟩:=row.get (zsL_at (ls:=ls) (hs:=hs) (show i<n+1 by omega))
  rw[hb] at f1
  cases f1
  rw[f2] at hbt
  cases hbt
  have x1:=lh.b1 i (by omega)
  have x2:=lh.b2 i (by omega)
  refine⟨_,rfl,_,rfl,_,_,rfl,x1.1,Mp,zM.smk (by decide),λ p1 G2 s2 e1=>?_⟩
  refine⟨_,rfl,_,rfl,_,_,rfl,x2.1,Mp,zM.smk (by decide),λ p2 G3 s3 e2=>?_⟩
  refine⟨two,λ p hp=>?_⟩
  have sp:=same_new hp (.tup [V.ref p1,V.ref p2])
  have s4:=(s2.trans s3).trans sp
  refine hk _ _ s4 ?_
  rw[psO_snoc]
  refine ((r.keep s4).app (show RowP _ [_] [.ref p] from ⟨p,p1,p2,[],rfl,upd_same,?_,?_,rfl⟩)).write (s4 _ _ hD3)
  ·exact (shp_new x1.1 x1.2 Mp zM (by decide) ((s3.trans sp) _ _ e1)).1
  ·exact (shp_new x2.1 x2.2 Mp zM (by decide) (sp _ _ e2)).1
 intro ys G1 s2 hD2 ly r
 have r':RowP G1 (psO (M:Int) ls hs (n+1)) ys:=by
  have:zs.length=n+1:=by omega
  rw[this] at r
  exact r
 have irP:=lhm_isr lh Mp
 have ovP:=psO_ov (M:=M) rfl Mp ls hs (n+1)
 have lnP:(psO (M:Int) ls hs (n+1)).length=n+1:=by unfold psO;simp
 have spP:=span_psO Mp ls hs (n+1)
 generalize hps:psO (M:Int) ls hs (n+1)=ps at *
 have smP:SmQ 60 ps:=λ p hp=>by
  obtain⟨u,v,w⟩:=irP.inn p hp
  obtain⟨o1,o2⟩:=ovP p hp
  exact⟨(ov_sm (by omega) (by omega) o1 u (by grind)).mono (by decide),(ov_sm (by omega) (by omega) o2 (by grind) w).mono (by decide)⟩
 have eS:seqOf (.lst (thL ps))=some (thL ps):=rfl
 have gU:=isr_good (n:=(n:Int)) eS (by omega) (by omega) (by rw[lnP];rfl) irP
 refine⟨_,rfl,_,rfl,_,_,.int (n:Int),.lst (thL ps),rfl,rfl,⟨D,ys,rfl,hD2,by rw[thL_is];exact dens_row r'⟩,smS_of eS smP,λ n' ps' g f H3 s3 df=>?_,λ no=>(no _ _ gU).elim⟩
 obtain⟨e1,e2⟩:=good_uq gU g
 subst e1 e2
 have hx:=qa_of (by omega) (by omega) n1 n12 lnP irP ovP df
 refine⟨_,rfl,f,n,ps,rfl,hx.ru,λ c y t' a' H4 hc s4 hy ft sa=>⟨y,_,0,_,rfl,rfl,SqT.of hy,at0,?_⟩⟩
 have eb:=bst_is hc
 obtain⟨b0,b1,bz⟩:=bst_sz n12 (by omega) M30 irP ovP hc
 rw[<-eb] at ft b0 b1 bz
 have s14:=((s1.trans s2).trans s3).trans s4
 refine⟨_,rfl,_,rfl,a,t',ns,bst n ps,rfl,s14.seq hS,ft,b0,b1,bz,λ ad sh H5 s5 fs sh0 sh1 gs=>?_⟩
 have s15:=s14.trans s5
 refine⟨_,rfl,a,ns,4,rfl,s15.seq hS,by decide,?_⟩
 generalize ns.getD (4:Int).toNat 0=c4
 dsimp only
 refine seq_by (λ σ G'=>Same H5 G'/\∃ k:Nat,σ = [some (.ref a),some (.int c0),some (.int n),some (.int (M:Int)),some (.ref l),some (.ref D),some (.ref f),some (.ref t'),some (.ref ad),some (.int c4),some (.int (k:Int)),none,none]/\1<=k/\k<=60) ?_ ?_
 ·intro M' hM
  refine⟨_,rfl,_,_,rfl,rfl,⟨by decide,by decide⟩,two,λ p hp=>?_⟩
  refine⟨_,rfl,_,_,rfl,rfl,(by show (0:Int)<2;decide),p,_,_,_,rfl,rfl,SqL.of upd_same,at_getD (ns:=[60,12]) (md0 c4 (by decide)) (md1 c4 (by decide)),?_⟩
  have hm:([60,12]:List Int).getD (c4%2).toNat 0∈([60,12]:List Int):=getD_mem (by have:=md1 c4 (show (0:Int)<2 by decide);have:=md0 c4 (show (0:Int)<2 by decide);show (c4%2).toNat<2;omega)
  generalize ([60,12]:List Int).getD (c4%2).toNat 0=wd at *
  have hw:0<wd/\wd<=60:=by simp only[List.mem_cons,List.not_mem_nil,or_false] at hm;omega
  have k0:=md0 (c4 / 2) hw.1
  have k1:=md1 (c4 / 2) hw.1
  refine⟨_,_,rfl,rfl,hw.1,_,_,rfl,rfl,hM _ _ ⟨same_new hp _,(1+c4 / 2%wd).toNat,?_,by omega,by omega⟩⟩
  rw[show (((1+c4 / 2%wd).toNat:Nat):Int)=1+c4 / 2%wd by omega]
  rfl
 rintro σ G6 ⟨s6,k1,rfl,k11,k12⟩
 refine seq_by (λ σ G'=>Same H5 G'/\∃ k:Nat,σ = [some (.ref a),some (.int c0),some (.int n),some (.int (M:Int)),some (.ref l),some (.ref D),some (.ref f),some (.ref t'),some (.ref ad),some (.int c4),some (.int (k:Int)),none,none]/\1<=k/\k<=60) ?_ ?_
 ·intro M' hM
  have go:tAsg (tOp (rI0 λ i j=>V.int (i+j)) (tC (V.int 1)) (tOp (rI (λ _ j=>0<j) λ i j=>V.int (i%j)) (tOp (rI CDiv λ i j=>V.int (i / j)) (tVar 9) (tC (V.int 2))) (tC (V.int 6)))) (gName 10) {nx:=M',rt:={nx:=λ _ H'=>Q V.non H',rt:=Q:Ends}.rt} [some (.ref a),some (.int c0),some (.int n),some (.int (M:Int)),some (.ref l),some (.ref D),some (.ref f),some (.ref t'),some (.ref ad),some (.int c4),some (.int (k1:Int)),none,none] G6:=by
   have k0:=md0 (c4 / 2) (show (0:Int)<6 by decide)
   have k1':=md1 (c4 / 2) (show (0:Int)<6 by decide)
   refine⟨_,rfl,_,_,rfl,rfl,⟨by decide,by decide⟩,_,_,rfl,rfl,(by show (0:Int)<6;decide),_,_,rfl,rfl,hM _ _ ⟨s6,(1+c4 / 2%6).toNat,?_,by omega,by omega⟩⟩
   rw[show (((1+c4 / 2%6).toNat:Nat):Int)=1+c4 / 2%6 by omega]
   rfl
  refine⟨_,rfl,rfl,_,rfl,?_⟩
  refine ite2 (λ d=>go) (λ d=>?_)
  refine⟨_,rfl,rfl,_,rfl,?_⟩
  exact ite2 (λ d=>go) (λ d=>hM _ _ ⟨s6,k1,rfl,k11,k12⟩)
 rintro σ G7 ⟨s7,k2,rfl,k21,k22⟩
 refine seq_by (λ σ G'=>Same H5 G'/\∃ k:Nat,σ = [some (.ref a),some (.int c0),some (.int n),some (.int (M:Int)),some (.ref l),some (.ref D),some (.ref f),some (.ref t'),some (.ref ad),some (.int c4),some (.int (k:Int)),none,none]/\1<=k/\k<=60) ?_ ?_
 ·intro M' hM
  refine⟨_,rfl,_,_,rfl,rfl,⟨by decide,by decide⟩,_,_,rfl,rfl,(by show (0:Int)<4;decide),rfl,_,rfl,?_⟩
  refine ite2 (λ d=>?_) (λ d=>hM _ _ ⟨s7,k2,rfl,k21,k22⟩)
  have z0:=md0 (c4 / 16) (show (0:Int)<2 by decide)
  have z1:=md1 (c4 / 16) (show (0:Int)<2 by decide)
  refine⟨_,rfl,_,_,rfl,rfl,⟨by decide,by decide⟩,_,_,rfl,rfl,(by show (0:Int)<2;decide),_,_,rfl,rfl,two,λ p hp=>?_⟩
  dsimp only
  have sp:=same_new hp (.lst [V.int (20+c4 / 16%2),V.int 21])
  refine⟨_,rfl,_,_,rfl,rfl,.inr ⟨_,rfl,p,_,_,_,rfl,rfl,SqL.of upd_same,at_getD (ns:=[20+c4 / 16%2,21]) (by split<;>decide) (by split<;>simp),?_⟩⟩
  have hm:([20+c4 / 16%2,21]:List Int).getD (if decide ((2:Int)<(n:Int))=true then (1:Int) else 0).toNat 0∈([20+c4 / 16%2,21]:List Int):=getD_mem (by split<;>simp)
  generalize ([20+c4 / 16%2,21]:List Int).getD (if decide ((2:Int)<(n:Int))=true then (1:Int) else 0).toNat 0=wd at *
  have hw:1<=wd/\wd<=60:=by simp only[List.mem_cons,List.not_mem_nil,or_false] at hm;omega
  refine hM _ _ ⟨s7.trans sp,wd.toNat,?_,by omega,by omega⟩
  rw[show ((wd.toNat:Nat):Int)=wd by omega]
  rfl
 rintro σ G8 ⟨s8,k,rfl,kk1,kk2⟩
 have d1:M ∣ M*k:=Nat.dvd_mul_right ..
 have d2:((k:Int)).toNat ∣ M*k:=by rw[show ((k:Int)).toNat=k from rfl];exact Nat.dvd_mul_left ..
 have DD0:0<M*k:=Nat.mul_pos (by omega) (by omega)
 have DD1:M*k<=1000000:=Nat.le_trans (Nat.mul_le_mul M30 kk2) (by decide)
 have s58:=(s4.trans s5).trans s8
 have hx8:=qa_up d1 (hx.keep s58)
 have fs8:=fs.keep s8
 have ft8:=ft.keep (s5.trans s8)
 have tb8:=((tb0.keep s15)).keep s8
 refine⟨_,rfl,_,rfl,_,rfl,_,rfl,_,_,rfl,rfl,⟨by decide,by decide⟩,_,_,rfl,rfl,(by show (0:Int)<2;decide),rfl,f,ad,M*k,n,(k:Int),sh,ps,_,rfl,hx8,fs8,by omega,by omega,d2,DD0,DD1,tb8,λ _ _ lt=>gap_of n12 bz gs lt,λ t v1 v2 H9 st ht tl=>?_⟩
 obtain⟨tp8,hT8,_⟩:=tb8
 have tups:=st.tup hT8
 have hx9:=hx8.map tups
 refine⟨_,rfl,_,rfl,_,rfl,_,rfl,_,rfl,f,ad,t,t',v1,v2,M*k,n,(k:Int),sh,ps,rfl,hx9,fs8.map tups,ft8.map tups,by omega,by omega,d2,DD0,DD1,ht,tl,λ HA sA=>⟨_,rfl,iteF ?_⟩⟩
 refine⟨_,rfl,f,M*k,n,ps,rfl,hx9.keep sA,DD0,DD1,λ wf HB sB fw=>?_⟩
 have sAB:=sA.trans sB
 have nl:l≠TB:=λ z=>by
  have e1:=(((s2.trans s3).trans s4).trans (s5.trans s8)) _ _ hl
  rw[z,hT8] at e1
  cases e1
 have hl8:=(((s2.trans s3).trans s4).trans (s5.trans s8)) _ _ hl
 have hlB:HB l=some (.lst zs):=sAB _ _ (st l _ nl hl8)
 have rowB:∀ i,i<n+1->∃ b,zs[i]? = some (.ref b)/\HB b=some (.tup [V.int (ls.getD i 0),V.int (hs.getD i 0)]):=λ i hi=>by
  obtain⟨b,f1,f2⟩:=row.get (zsL_at (ls:=ls) (hs:=hs) hi)
  exact⟨b,f1,sAB _ _ (tups _ _ ((((s2.trans s3).trans s4).trans (s5.trans s8)) _ _ f2))⟩
 dsimp only
 refine seq_by (λ σ G'=>Same HB G'/\σ = [some (.ref a),some (.int c0),some (.int n),some (.int (M:Int)),some (.ref l),some (.ref D),some (.ref f),some (.ref t'),some (.ref ad),some (.int c4),some (.int (k:Int)),some (.ref t),some (.ref wf)]) ?_ ?_
 ·intro M' hM
  refine⟨_,rfl,_,rfl,l,rfl,⟨_,SqL.of hlB⟩,λ DD hDD=>?_⟩
  refine comp_lpairR (λ i ys G'=>∃ xs:List Int,ys=xs.map V.int/\xs.sum=dSum ls hs i) hDD (SqL.of hlB) (Nat.le_of_lt (lt40 (by omega))) ⟨[],rfl,rfl⟩ (λ i hi=>?_) ?_ ?_
  ·obtain⟨b,f1,f2⟩:=rowB i (by omega)
   exact⟨b,_,_,f1,f2⟩
  ·rintro i b u v ys G1 kk hb hbt sm hD3 ⟨xs,rfl,ex⟩ hk
   have hi:=(List.getElem?_eq_some_iff.mp hb).1
   obtain⟨b',f1,f2⟩:=rowB i (by omega)
   rw[hb] at f1
   cases f1
   rw[f2] at hbt
   cases hbt
   refine⟨_,rfl,_,rfl,_,_,rfl,rfl,hk _ _ (Same.refl _) ⟨xs++[hs.getD i 0-ls.getD i 0],by rw[List.map_append];rfl,?_⟩⟩
   rw[List.sum_append,ex]
   show dSum ls hs i+(hs.getD i 0-ls.getD i 0+0)=_
   rw[Int.add_zero]
   rfl
  ·rintro ys G1 sm hD3 lys ⟨xs,rfl,ex⟩
   have ez:zs.length=n+1:=by omega
   rw[ez] at ex
   have pos:0<=dSum ls hs (n+1):=by
    have go:∀ j,j<=n+1->0<=dSum ls hs j:=λ j=>by
     induction j with
     | zero=>intro _;exact Int.le_refl _
     | succ j ih =>
      intro hj
      have:=ih (by omega)
      have:=lh.le j (by omega)
      show 0<=dSum ls hs j+(hs.getD j 0-ls.getD j 0)
      omega
    exact go _ (Nat.le_refl _)
   refine⟨DD,xs,rfl,SqL.of hD3,_,rfl,_,_,rfl,by rw[ex];exact pos,Mp,zM.smk (by decide),λ w G2 s2' ew=>?_⟩
   rw[ex,<-spP] at ew
   refine⟨_,den_p (fw.keep (sm.trans s2')).ob,den_p ew,by simp [depT,depTs],_,rfl,iteF (hM _ _ ⟨sm.trans s2',rfl⟩)⟩
 rintro σ GC ⟨sC,rfl⟩
 have sAC:=sAB.trans sC
 have htC:=sAC _ _ ht
 refine⟨_,rfl,t,_,0,_,rfl,rfl,SqT.of htC,at0,rfl,?_⟩
 rcases tl.keep sAC with ⟨_,rfl,_⟩ | ⟨c1,c2,c3,_,y',ps',rfl,run,hy'⟩ | ⟨_,_,_,rfl,_⟩
 ·exact⟨_,rfl,iteT (q _)⟩
 ·obtain⟨_,_,_,wiM⟩:=madeQ (by omega) n1 n12 run irP c3 lnP
  refine⟨_,rfl,iteF ⟨_,rfl,t,_,0,_,rfl,rfl,SqT.of htC,at0,y',M*k,n,ps',rfl,hy',DD0,DD1,λ w HD sD fd=>?_⟩⟩
  refine⟨_,rfl,w,wf,_,_,rfl,fd.fq,(fw.keep (sC.trans sD)).fq,?_⟩
  rw[decide_eq_true (span_wth wiM)]
  exact q _
 ·exact⟨_,rfl,iteT (q _)⟩
end
theorem all_mk {l:PySem.W.OpenLaw}{w:World}{K:PySem.W.Frag}{h:Heap}{mg:Str->Option Value}{fa f_whole f_share f_wpair f_cd f_frac f_plus f_minus f_und f_cho f_pow f_wtop f_rsum f_ruleof f_rowof f_str f_held f_rov f_cov f_sor f_edges f_pieces f_with f_least f_lpl f_sure f_lack f_lks f_shb f_sim f_wterm f_mov f_we f_tgt f_swm f_mt f_cell f_stream f_dv f_low f_nm f_pows f_chs f_cvr f_stp f_spn f_lsh f_noo f_tld f_ltg f_rgt f_law:Addr} (X:K.In h) (G:h.Ns mainGlobals mg) (hfa:mg "law" = some (.ref fa))
  (a_whole:PySem.W.nsIn K mainGlobals "is_whole" = some (some (.ref f_whole))) (l_whole:K.lookup f_whole=some ⟨oc_whole,od_whole,.func (PySem.W.fnOf "is_whole" "is_whole" (defArgs s_whole) (defBody s_whole) (defScope s_whole) .none kV_whole dc_whole pm_whole an_whole cd_whole ct_whole),sl_whole⟩) (c_whole:PySem.W.codeIn K cd_whole "is_whole" = true) (k_whole:PySem.W.keepIn K (.ref f_whole)=true)
  (a_share:PySem.W.nsIn K mainGlobals "is_share" = some (some (.ref f_share))) (l_share:K.lookup f_share=some ⟨oc_share,od_share,.func (PySem.W.fnOf "is_share" "is_share" (defArgs s_share) (defBody s_share) (defScope s_share) .none kV_share dc_share pm_share an_share cd_share ct_share),sl_share⟩) (c_share:PySem.W.codeIn K cd_share "is_share" = true) (k_share:PySem.W.keepIn K (.ref f_share)=true)
  (a_wpair:PySem.W.nsIn K mainGlobals "is_whole_pair" = some (some (.ref f_wpair))) (l_wpair:K.lookup f_wpair=some ⟨oc_wpair,od_wpair,.func (PySem.W.fnOf "is_whole_pair" "is_whole_pair" (defArgs s_wpair) (defBody s_wpair) (defScope s_wpair) .none kV_wpair dc_wpair pm_wpair an_wpair cd_wpair ct_wpair),sl_wpair⟩) (c_wpair:PySem.W.codeIn K cd_wpair "is_whole_pair" = true) (k_wpair:PySem.W.keepIn K (.ref f_wpair)=true)
  (a_cd:PySem.W.nsIn K mainGlobals "common_divisor" = some (some (.ref f_cd))) (l_cd:K.lookup f_cd=some ⟨oc_cd,od_cd,.func (PySem.W.fnOf "common_divisor" "common_divisor" (defArgs s_cd) (defBody s_cd) (defScope s_cd) .none kV_cd dc_cd pm_cd an_cd cd_cd ct_cd),sl_cd⟩) (c_cd:PySem.W.codeIn K cd_cd "common_divisor" = true) (k_cd:PySem.W.keepIn K (.ref f_cd)=true)
  (a_frac:PySem.W.nsIn K mainGlobals "fraction" = some (some (.ref f_frac))) (l_frac:K.lookup f_frac=some ⟨oc_frac,od_frac,.func (PySem.W.fnOf "fraction" "fraction" (defArgs s_frac) (defBody s_frac) (defScope s_frac) .none kV_frac dc_frac pm_frac an_frac cd_frac ct_frac),sl_frac⟩) (c_frac:PySem.W.codeIn K cd_frac "fraction" = true) (k_frac:PySem.W.keepIn K (.ref f_frac)=true)
  (a_plus:PySem.W.nsIn K mainGlobals "plus" = some (some (.ref f_plus))) (l_plus:K.lookup f_plus=some ⟨oc_plus,od_plus,.func (PySem.W.fnOf "plus" "plus" (defArgs s_plus) (defBody s_plus) (defScope s_plus) .none kV_plus dc_plus pm_plus an_plus cd_plus ct_plus),sl_plus⟩) (c_plus:PySem.W.codeIn K cd_plus "plus" = true) (k_plus:PySem.W.keepIn K (.ref f_plus)=true)
  (a_minus:PySem.W.nsIn K mainGlobals "minus" = some (some (.ref f_minus))) (l_minus:K.lookup f_minus=some ⟨oc_minus,od_minus,.func (PySem.W.fnOf "minus" "minus" (defArgs s_minus) (defBody s_minus) (defScope s_minus) .none kV_minus dc_minus pm_minus an_minus cd_minus ct_minus),sl_minus⟩) (c_minus:PySem.W.codeIn K cd_minus "minus" = true) (k_minus:PySem.W.keepIn K (.ref f_minus)=true)
  (a_und:PySem.W.nsIn K mainGlobals "under" = some (some (.ref f_und))) (l_und:K.lookup f_und=some ⟨oc_und,od_und,.func (PySem.W.fnOf "under" "under" (defArgs s_und) (defBody s_und) (defScope s_und) .none kV_und dc_und pm_und an_und cd_und ct_und),sl_und⟩) (c_und:PySem.W.codeIn K cd_und "under" = true) (k_und:PySem.W.keepIn K (.ref f_und)=true)
  (a_cho:PySem.W.nsIn K mainGlobals "choices" = some (some (.ref f_cho))) (l_cho:K.lookup f_cho=some ⟨oc_cho,od_cho,.func (PySem.W.fnOf "choices" "choices" (defArgs s_cho) (defBody s_cho) (defScope s_cho) .none kV_cho dc_cho pm_cho an_cho cd_cho ct_cho),sl_cho⟩) (c_cho:PySem.W.codeIn K cd_cho "choices" = true) (k_cho:PySem.W.keepIn K (.ref f_cho)=true)
  (a_pow:PySem.W.nsIn K mainGlobals "power" = some (some (.ref f_pow))) (l_pow:K.lookup f_pow=some ⟨oc_pow,od_pow,.func (PySem.W.fnOf "power" "power" (defArgs s_pow) (defBody s_pow) (defScope s_pow) .none kV_pow dc_pow pm_pow an_pow cd_pow ct_pow),sl_pow⟩) (c_pow:PySem.W.codeIn K cd_pow "power" = true) (k_pow:PySem.W.keepIn K (.ref f_pow)=true)
  (a_wtop:PySem.W.nsIn K mainGlobals "weight_top" = some (some (.ref f_wtop))) (l_wtop:K.lookup f_wtop=some ⟨oc_wtop,od_wtop,.func (PySem.W.fnOf "weight_top" "weight_top" (defArgs s_wtop) (defBody s_wtop) (defScope s_wtop) .none kV_wtop dc_wtop pm_wtop an_wtop cd_wtop ct_wtop),sl_wtop⟩) (c_wtop:PySem.W.codeIn K cd_wtop "weight_top" = true) (k_wtop:PySem.W.keepIn K (.ref f_wtop)=true)
  (a_rsum:PySem.W.nsIn K mainGlobals "run_sum" = some (some (.ref f_rsum))) (l_rsum:K.lookup f_rsum=some ⟨oc_rsum,od_rsum,.func (PySem.W.fnOf "run_sum" "run_sum" (defArgs s_rsum) (defBody s_rsum) (defScope s_rsum) .none kV_rsum dc_rsum pm_rsum an_rsum cd_rsum ct_rsum),sl_rsum⟩) (c_rsum:PySem.W.codeIn K cd_rsum "run_sum" = true) (k_rsum:PySem.W.keepIn K (.ref f_rsum)=true)
  (a_ruleof:PySem.W.nsIn K mainGlobals "rule_of" = some (some (.ref f_ruleof))) (l_ruleof:K.lookup f_ruleof=some ⟨oc_ruleof,od_ruleof,.func (PySem.W.fnOf "rule_of" "rule_of" (defArgs s_ruleof) (defBody s_ruleof) (defScope s_ruleof) .none kV_ruleof dc_ruleof pm_ruleof an_ruleof cd_ruleof ct_ruleof),sl_ruleof⟩) (c_ruleof:PySem.W.codeIn K cd_ruleof "rule_of" = true) (k_ruleof:PySem.W.keepIn K (.ref f_ruleof)=true)
  (a_rowof:PySem.W.nsIn K mainGlobals "is_row_of" = some (some (.ref f_rowof))) (l_rowof:K.lookup f_rowof=some ⟨oc_rowof,od_rowof,.func (PySem.W.fnOf "is_row_of" "is_row_of" (defArgs s_rowof) (defBody s_rowof) (defScope s_rowof) .none kV_rowof dc_rowof pm_rowof an_rowof cd_rowof ct_rowof),sl_rowof⟩) (c_rowof:PySem.W.codeIn K cd_rowof "is_row_of" = true) (k_rowof:PySem.W.keepIn K (.ref f_rowof)=true)
  (a_str:PySem.W.nsIn K mainGlobals "stretch_of" = some (some (.ref f_str))) (l_str:K.lookup f_str=some ⟨oc_str,od_str,.func (PySem.W.fnOf "stretch_of" "stretch_of" (defArgs s_str) (defBody s_str) (defScope s_str) .none kV_str dc_str pm_str an_str cd_str ct_str),sl_str⟩) (c_str:PySem.W.codeIn K cd_str "stretch_of" = true) (k_str:PySem.W.keepIn K (.ref f_str)=true)
  (a_held:PySem.W.nsIn K mainGlobals "held" = some (some (.ref f_held))) (l_held:K.lookup f_held=some ⟨oc_held,od_held,.func (PySem.W.fnOf "held" "held" (defArgs s_held) (defBody s_held) (defScope s_held) .none kV_held dc_held pm_held an_held cd_held ct_held),sl_held⟩) (c_held:PySem.W.codeIn K cd_held "held" = true) (k_held:PySem.W.keepIn K (.ref f_held)=true)
  (a_rov:PySem.W.nsIn K mainGlobals "run_over" = some (some (.ref f_rov))) (l_rov:K.lookup f_rov=some ⟨oc_rov,od_rov,.func (PySem.W.fnOf "run_over" "run_over" (defArgs s_rov) (defBody s_rov) (defScope s_rov) .none kV_rov dc_rov pm_rov an_rov cd_rov ct_rov),sl_rov⟩) (c_rov:PySem.W.codeIn K cd_rov "run_over" = true) (k_rov:PySem.W.keepIn K (.ref f_rov)=true)
  (a_cov:PySem.W.nsIn K mainGlobals "cover" = some (some (.ref f_cov))) (l_cov:K.lookup f_cov=some ⟨oc_cov,od_cov,.func (PySem.W.fnOf "cover" "cover" (defArgs s_cov) (defBody s_cov) (defScope s_cov) .none kV_cov dc_cov pm_cov an_cov cd_cov ct_cov),sl_cov⟩) (c_cov:PySem.W.codeIn K cd_cov "cover" = true) (k_cov:PySem.W.keepIn K (.ref f_cov)=true)
  (a_sor:PySem.W.nsIn K mainGlobals "sum_of_run" = some (some (.ref f_sor))) (l_sor:K.lookup f_sor=some ⟨oc_sor,od_sor,.func (PySem.W.fnOf "sum_of_run" "sum_of_run" (defArgs s_sor) (defBody s_sor) (defScope s_sor) .none kV_sor dc_sor pm_sor an_sor cd_sor ct_sor),sl_sor⟩) (c_sor:PySem.W.codeIn K cd_sor "sum_of_run" = true) (k_sor:PySem.W.keepIn K (.ref f_sor)=true)
  (a_edges:PySem.W.nsIn K mainGlobals "edges" = some (some (.ref f_edges))) (l_edges:K.lookup f_edges=some ⟨oc_edges,od_edges,.func (PySem.W.fnOf "edges" "edges" (defArgs s_edges) (defBody s_edges) (defScope s_edges) .none kV_edges dc_edges pm_edges an_edges cd_edges ct_edges),sl_edges⟩) (c_edges:PySem.W.codeIn K cd_edges "edges" = true) (k_edges:PySem.W.keepIn K (.ref f_edges)=true)
  (a_pieces:PySem.W.nsIn K mainGlobals "pieces" = some (some (.ref f_pieces))) (l_pieces:K.lookup f_pieces=some ⟨oc_pieces,od_pieces,.func (PySem.W.fnOf "pieces" "pieces" (defArgs s_pieces) (defBody s_pieces) (defScope s_pieces) .none kV_pieces dc_pieces pm_pieces an_pieces cd_pieces ct_pieces),sl_pieces⟩) (c_pieces:PySem.W.codeIn K cd_pieces "pieces" = true) (k_pieces:PySem.W.keepIn K (.ref f_pieces)=true)
  (a_with:PySem.W.nsIn K mainGlobals "is_within" = some (some (.ref f_with))) (l_with:K.lookup f_with=some ⟨oc_with,od_with,.func (PySem.W.fnOf "is_within" "is_within" (defArgs s_with) (defBody s_with) (defScope s_with) .none kV_with dc_with pm_with an_with cd_with ct_with),sl_with⟩) (c_with:PySem.W.codeIn K cd_with "is_within" = true) (k_with:PySem.W.keepIn K (.ref f_with)=true)
  (a_least:PySem.W.nsIn K mainGlobals "least" = some (some (.ref f_least))) (l_least:K.lookup f_least=some ⟨oc_least,od_least,.func (PySem.W.fnOf "least" "least" (defArgs s_least) (defBody s_least) (defScope s_least) .none kV_least dc_least pm_least an_least cd_least ct_least),sl_least⟩) (c_least:PySem.W.codeIn K cd_least "least" = true) (k_least:PySem.W.keepIn K (.ref f_least)=true)
  (a_lpl:PySem.W.nsIn K mainGlobals "least_place" = some (some (.ref f_lpl))) (l_lpl:K.lookup f_lpl=some ⟨oc_lpl,od_lpl,.func (PySem.W.fnOf "least_place" "least_place" (defArgs s_lpl) (defBody s_lpl) (defScope s_lpl) .none kV_lpl dc_lpl pm_lpl an_lpl cd_lpl ct_lpl),sl_lpl⟩) (c_lpl:PySem.W.codeIn K cd_lpl "least_place" = true) (k_lpl:PySem.W.keepIn K (.ref f_lpl)=true)
  (a_sure:PySem.W.nsIn K mainGlobals "sure" = some (some (.ref f_sure))) (l_sure:K.lookup f_sure=some ⟨oc_sure,od_sure,.func (PySem.W.fnOf "sure" "sure" (defArgs s_sure) (defBody s_sure) (defScope s_sure) .none kV_sure dc_sure pm_sure an_sure cd_sure ct_sure),sl_sure⟩) (c_sure:PySem.W.codeIn K cd_sure "sure" = true) (k_sure:PySem.W.keepIn K (.ref f_sure)=true)
  (a_lack:PySem.W.nsIn K mainGlobals "share_lacking" = some (some (.ref f_lack))) (l_lack:K.lookup f_lack=some ⟨oc_lack,od_lack,.func (PySem.W.fnOf "share_lacking" "share_lacking" (defArgs s_lack) (defBody s_lack) (defScope s_lack) .none kV_lack dc_lack pm_lack an_lack cd_lack ct_lack),sl_lack⟩) (c_lack:PySem.W.codeIn K cd_lack "share_lacking" = true) (k_lack:PySem.W.keepIn K (.ref f_lack)=true)
  (a_lks:PySem.W.nsIn K mainGlobals "lacks" = some (some (.ref f_lks))) (l_lks:K.lookup f_lks=some ⟨oc_lks,od_lks,.func (PySem.W.fnOf "lacks" "lacks" (defArgs s_lks) (defBody s_lks) (defScope s_lks) .none kV_lks dc_lks pm_lks an_lks cd_lks ct_lks),sl_lks⟩) (c_lks:PySem.W.codeIn K cd_lks "lacks" = true) (k_lks:PySem.W.keepIn K (.ref f_lks)=true)
  (a_shb:PySem.W.nsIn K mainGlobals "share_beside" = some (some (.ref f_shb))) (l_shb:K.lookup f_shb=some ⟨oc_shb,od_shb,.func (PySem.W.fnOf "share_beside" "share_beside" (defArgs s_shb) (defBody s_shb) (defScope s_shb) .none kV_shb dc_shb pm_shb an_shb cd_shb ct_shb),sl_shb⟩) (c_shb:PySem.W.codeIn K cd_shb "share_beside" = true) (k_shb:PySem.W.keepIn K (.ref f_shb)=true)
  (a_sim:PySem.W.nsIn K mainGlobals "simplest_between" = some (some (.ref f_sim))) (l_sim:K.lookup f_sim=some ⟨oc_sim,od_sim,.func (PySem.W.fnOf "simplest_between" "simplest_between" (defArgs s_sim) (defBody s_sim) (defScope s_sim) .none kV_sim dc_sim pm_sim an_sim cd_sim ct_sim),sl_sim⟩) (c_sim:PySem.W.codeIn K cd_sim "simplest_between" = true) (k_sim:PySem.W.keepIn K (.ref f_sim)=true)
  (a_wterm:PySem.W.nsIn K mainGlobals "with_term" = some (some (.ref f_wterm))) (l_wterm:K.lookup f_wterm=some ⟨oc_wterm,od_wterm,.func (PySem.W.fnOf "with_term" "with_term" (defArgs s_wterm) (defBody s_wterm) (defScope s_wterm) .none kV_wterm dc_wterm pm_wterm an_wterm cd_wterm ct_wterm),sl_wterm⟩) (c_wterm:PySem.W.codeIn K cd_wterm "with_term" = true) (k_wterm:PySem.W.keepIn K (.ref f_wterm)=true)
  (a_mov:PySem.W.nsIn K mainGlobals "moved" = some (some (.ref f_mov))) (l_mov:K.lookup f_mov=some ⟨oc_mov,od_mov,.func (PySem.W.fnOf "moved" "moved" (defArgs s_mov) (defBody s_mov) (defScope s_mov) .none kV_mov dc_mov pm_mov an_mov cd_mov ct_mov),sl_mov⟩) (c_mov:PySem.W.codeIn K cd_mov "moved" = true) (k_mov:PySem.W.keepIn K (.ref f_mov)=true)
  (a_we:PySem.W.nsIn K mainGlobals "with_end" = some (some (.ref f_we))) (l_we:K.lookup f_we=some ⟨oc_we,od_we,.func (PySem.W.fnOf "with_end" "with_end" (defArgs s_we) (defBody s_we) (defScope s_we) .none kV_we dc_we pm_we an_we cd_we ct_we),sl_we⟩) (c_we:PySem.W.codeIn K cd_we "with_end" = true) (k_we:PySem.W.keepIn K (.ref f_we)=true)
  (a_tgt:PySem.W.nsIn K mainGlobals "tight" = some (some (.ref f_tgt))) (l_tgt:K.lookup f_tgt=some ⟨oc_tgt,od_tgt,.func (PySem.W.fnOf "tight" "tight" (defArgs s_tgt) (defBody s_tgt) (defScope s_tgt) .none kV_tgt dc_tgt pm_tgt an_tgt cd_tgt ct_tgt),sl_tgt⟩) (c_tgt:PySem.W.codeIn K cd_tgt "tight" = true) (k_tgt:PySem.W.keepIn K (.ref f_tgt)=true)
  (a_swm:PySem.W.nsIn K mainGlobals "sure_when_moved" = some (some (.ref f_swm))) (l_swm:K.lookup f_swm=some ⟨oc_swm,od_swm,.func (PySem.W.fnOf "sure_when_moved" "sure_when_moved" (defArgs s_swm) (defBody s_swm) (defScope s_swm) .none kV_swm dc_swm pm_swm an_swm cd_swm ct_swm),sl_swm⟩) (c_swm:PySem.W.codeIn K cd_swm "sure_when_moved" = true) (k_swm:PySem.W.keepIn K (.ref f_swm)=true)
  (a_mt:PySem.W.nsIn K mainGlobals "made_tight" = some (some (.ref f_mt))) (l_mt:K.lookup f_mt=some ⟨oc_mt,od_mt,.func (PySem.W.fnOf "made_tight" "made_tight" (defArgs s_mt) (defBody s_mt) (defScope s_mt) .none kV_mt dc_mt pm_mt an_mt cd_mt ct_mt),sl_mt⟩) (c_mt:PySem.W.codeIn K cd_mt "made_tight" = true) (k_mt:PySem.W.keepIn K (.ref f_mt)=true)
  (a_cell:PySem.W.nsIn K mainGlobals "_law_cell_at" = some (some (.ref f_cell))) (l_cell:K.lookup f_cell=some ⟨oc_cell,od_cell,.func (PySem.W.fnOf "_law_cell_at" "_law_cell_at" (defArgs s_cell) (defBody s_cell) (defScope s_cell) .none kV_cell dc_cell pm_cell an_cell cd_cell ct_cell),sl_cell⟩) (c_cell:PySem.W.codeIn K cd_cell "_law_cell_at" = true) (k_cell:PySem.W.keepIn K (.ref f_cell)=true)
  (a_stream:PySem.W.nsIn K mainGlobals "_law_stream" = some (some (.ref f_stream))) (l_stream:K.lookup f_stream=some ⟨oc_stream,od_stream,.func (PySem.W.fnOf "_law_stream" "_law_stream" (defArgs s_stream) (defBody s_stream) (defScope s_stream) .none kV_stream dc_stream pm_stream an_stream cd_stream ct_stream),sl_stream⟩) (c_stream:PySem.W.codeIn K cd_stream "_law_stream" = true) (k_stream:PySem.W.keepIn K (.ref f_stream)=true)
  (a_dv:PySem.W.nsIn K mainGlobals "_law_divisor" = some (some (.ref f_dv))) (l_dv:K.lookup f_dv=some ⟨oc_dv,od_dv,.func (PySem.W.fnOf "_law_divisor" "_law_divisor" (defArgs s_dv) (defBody s_dv) (defScope s_dv) .none kV_dv dc_dv pm_dv an_dv cd_dv ct_dv),sl_dv⟩) (c_dv:PySem.W.codeIn K cd_dv "_law_divisor" = true) (k_dv:PySem.W.keepIn K (.ref f_dv)=true)
  (a_low:PySem.W.nsIn K mainGlobals "_law_lowest" = some (some (.ref f_low))) (l_low:K.lookup f_low=some ⟨oc_low,od_low,.func (PySem.W.fnOf "_law_lowest" "_law_lowest" (defArgs s_low) (defBody s_low) (defScope s_low) .none kV_low dc_low pm_low an_low cd_low ct_low),sl_low⟩) (c_low:PySem.W.codeIn K cd_low "_law_lowest" = true) (k_low:PySem.W.keepIn K (.ref f_low)=true)
  (a_nm:PySem.W.nsIn K mainGlobals "_law_no_more" = some (some (.ref f_nm))) (l_nm:K.lookup f_nm=some ⟨oc_nm,od_nm,.func (PySem.W.fnOf "_law_no_more" "_law_no_more" (defArgs s_nm) (defBody s_nm) (defScope s_nm) .none kV_nm dc_nm pm_nm an_nm cd_nm ct_nm),sl_nm⟩) (c_nm:PySem.W.codeIn K cd_nm "_law_no_more" = true) (k_nm:PySem.W.keepIn K (.ref f_nm)=true)
  (a_pows:PySem.W.nsIn K mainGlobals "_law_powers" = some (some (.ref f_pows))) (l_pows:K.lookup f_pows=some ⟨oc_pows,od_pows,.func (PySem.W.fnOf "_law_powers" "_law_powers" (defArgs s_pows) (defBody s_pows) (defScope s_pows) .none kV_pows dc_pows pm_pows an_pows cd_pows ct_pows),sl_pows⟩) (c_pows:PySem.W.codeIn K cd_pows "_law_powers" = true) (k_pows:PySem.W.keepIn K (.ref f_pows)=true)
  (a_chs:PySem.W.nsIn K mainGlobals "_law_choices" = some (some (.ref f_chs))) (l_chs:K.lookup f_chs=some ⟨oc_chs,od_chs,.func (PySem.W.fnOf "_law_choices" "_law_choices" (defArgs s_chs) (defBody s_chs) (defScope s_chs) .none kV_chs dc_chs pm_chs an_chs cd_chs ct_chs),sl_chs⟩) (c_chs:PySem.W.codeIn K cd_chs "_law_choices" = true) (k_chs:PySem.W.keepIn K (.ref f_chs)=true)
  (a_cvr:PySem.W.nsIn K mainGlobals "_law_cover" = some (some (.ref f_cvr))) (l_cvr:K.lookup f_cvr=some ⟨oc_cvr,od_cvr,.func (PySem.W.fnOf "_law_cover" "_law_cover" (defArgs s_cvr) (defBody s_cvr) (defScope s_cvr) .none kV_cvr dc_cvr pm_cvr an_cvr cd_cvr ct_cvr),sl_cvr⟩) (c_cvr:PySem.W.codeIn K cd_cvr "_law_cover" = true) (k_cvr:PySem.W.keepIn K (.ref f_cvr)=true)
  (a_stp:PySem.W.nsIn K mainGlobals "_law_steps" = some (some (.ref f_stp))) (l_stp:K.lookup f_stp=some ⟨oc_stp,od_stp,.func (PySem.W.fnOf "_law_steps" "_law_steps" (defArgs s_stp) (defBody s_stp) (defScope s_stp) .none kV_stp dc_stp pm_stp an_stp cd_stp ct_stp),sl_stp⟩) (c_stp:PySem.W.codeIn K cd_stp "_law_steps" = true) (k_stp:PySem.W.keepIn K (.ref f_stp)=true)
  (a_spn:PySem.W.nsIn K mainGlobals "span" = some (some (.ref f_spn))) (l_spn:K.lookup f_spn=some ⟨oc_spn,od_spn,.func (PySem.W.fnOf "span" "span" (defArgs s_spn) (defBody s_spn) (defScope s_spn) .none kV_spn dc_spn pm_spn an_spn cd_spn ct_spn),sl_spn⟩) (c_spn:PySem.W.codeIn K cd_spn "span" = true) (k_spn:PySem.W.keepIn K (.ref f_spn)=true)
  (a_lsh:PySem.W.nsIn K mainGlobals "_law_share" = some (some (.ref f_lsh))) (l_lsh:K.lookup f_lsh=some ⟨oc_lsh,od_lsh,.func (PySem.W.fnOf "_law_share" "_law_share" (defArgs s_lsh) (defBody s_lsh) (defScope s_lsh) .none kV_lsh dc_lsh pm_lsh an_lsh cd_lsh ct_lsh),sl_lsh⟩) (c_lsh:PySem.W.codeIn K cd_lsh "_law_share" = true) (k_lsh:PySem.W.keepIn K (.ref f_lsh)=true)
  (a_noo:PySem.W.nsIn K mainGlobals "_law_no_other" = some (some (.ref f_noo))) (l_noo:K.lookup f_noo=some ⟨oc_noo,od_noo,.func (PySem.W.fnOf "_law_no_other" "_law_no_other" (defArgs s_noo) (defBody s_noo) (defScope s_noo) .none kV_noo dc_noo pm_noo an_noo cd_noo ct_noo),sl_noo⟩) (c_noo:PySem.W.codeIn K cd_noo "_law_no_other" = true) (k_noo:PySem.W.keepIn K (.ref f_noo)=true)
  (a_tld:PySem.W.nsIn K mainGlobals "_law_told" = some (some (.ref f_tld))) (l_tld:K.lookup f_tld=some ⟨oc_tld,od_tld,.func (PySem.W.fnOf "_law_told" "_law_told" (defArgs s_tld) (defBody s_tld) (defScope s_tld) .none kV_tld dc_tld pm_tld an_tld cd_tld ct_tld),sl_tld⟩) (c_tld:PySem.W.codeIn K cd_tld "_law_told" = true) (k_tld:PySem.W.keepIn K (.ref f_tld)=true)
  (a_ltg:PySem.W.nsIn K mainGlobals "_law_tight" = some (some (.ref f_ltg))) (l_ltg:K.lookup f_ltg=some ⟨oc_ltg,od_ltg,.func (PySem.W.fnOf "_law_tight" "_law_tight" (defArgs s_ltg) (defBody s_ltg) (defScope s_ltg) .none kV_ltg dc_ltg pm_ltg an_ltg cd_ltg ct_ltg),sl_ltg⟩) (c_ltg:PySem.W.codeIn K cd_ltg "_law_tight" = true) (k_ltg:PySem.W.keepIn K (.ref f_ltg)=true)
  (a_rgt:PySem.W.nsIn K mainGlobals "_law_right" = some (some (.ref f_rgt))) (l_rgt:K.lookup f_rgt=some ⟨oc_rgt,od_rgt,.func (PySem.W.fnOf "_law_right" "_law_right" (defArgs s_rgt) (defBody s_rgt) (defScope s_rgt) .none kV_rgt dc_rgt pm_rgt an_rgt cd_rgt ct_rgt),sl_rgt⟩) (c_rgt:PySem.W.codeIn K cd_rgt "_law_right" = true) (k_rgt:PySem.W.keepIn K (.ref f_rgt)=true)
  (a_law:PySem.W.nsIn K mainGlobals "law" = some (some (.ref f_law))) (l_law:K.lookup f_law=some ⟨oc_law,od_law,.func (PySem.W.fnOf "law" "law" (defArgs s_law) (defBody s_law) (defScope s_law) .none kV_law dc_law pm_law an_law cd_law ct_law),sl_law⟩) (c_law:PySem.W.codeIn K cd_law "law" = true) (k_law:PySem.W.keepIn K (.ref f_law)=true)
  (z_range:PySem.W.nsIn K mainGlobals "range" = some none) (z_min:PySem.W.nsIn K mainGlobals "min" = some none) (z_max:PySem.W.nsIn K mainGlobals "max" = some none) (z_len:PySem.W.nsIn K mainGlobals "len" = some none) (z_isinstance:PySem.W.nsIn K mainGlobals "isinstance" = some none) (z_int:PySem.W.nsIn K mainGlobals "int" = some none) (z_bool:PySem.W.nsIn K mainGlobals "bool" = some none) (z_tuple:PySem.W.nsIn K mainGlobals "tuple" = some none) (z_abs:PySem.W.nsIn K mainGlobals "abs" = some none) (z_all:PySem.W.nsIn K mainGlobals "all" = some none) (z_zip:PySem.W.nsIn K mainGlobals "zip" = some none) (z_sum:PySem.W.nsIn K mainGlobals "sum" = some none) (z_list:PySem.W.nsIn K mainGlobals "list" = some none) (z_sorted:PySem.W.nsIn K mainGlobals "sorted" = some none) (z_reversed:PySem.W.nsIn K mainGlobals "reversed" = some none) (z_ValueError:PySem.W.nsIn K mainGlobals "ValueError" = some none)
  {d_StretchError d_NoNumber d_NoRule d_NotSure d_TooMuch d_NoPlan d_NoText d_NoName d_NoRow:Addr}
  (n_StretchError:PySem.W.nsIn K mainGlobals "StretchError" = some (some (.ref d_StretchError)))
  (n_NoNumber:PySem.W.nsIn K mainGlobals "NoNumber" = some (some (.ref d_NoNumber)))
  (n_NoRule:PySem.W.nsIn K mainGlobals "NoRule" = some (some (.ref d_NoRule)))
  (n_NotSure:PySem.W.nsIn K mainGlobals "NotSure" = some (some (.ref d_NotSure)))
  (n_TooMuch:PySem.W.nsIn K mainGlobals "TooMuch" = some (some (.ref d_TooMuch)))
  (n_NoPlan:PySem.W.nsIn K mainGlobals "NoPlan" = some (some (.ref d_NoPlan)))
  (n_NoText:PySem.W.nsIn K mainGlobals "NoText" = some (some (.ref d_NoText)))
  (n_NoName:PySem.W.nsIn K mainGlobals "NoName" = some (some (.ref d_NoName)))
  (n_NoRow:PySem.W.nsIn K mainGlobals "NoRow" = some (some (.ref d_NoRow)))
  (x_NoRule:PySem.W.excIn K d_NoRule vbm "ValueError.__new__" = true)
  (ic_NoRule:PySem.W.isClsIn K d_NoRule=true)
  (ga_NoRule:PySem.W.findIn K (.ref d_NoRule) "__getattribute__" = some (some (.builtin "BaseException.__getattribute__")))
  (gt_NoRule:PySem.W.findIn K (.ref d_NoRule) "__getattr__" = some none)
  (cl_NoRule:PySem.W.findIn K (.ref d_NoRule) "__class__" = some (some (.builtin "object.__class__")))
  (sg_NoRule:PySem.W.specialIn K (.builtin "object.__class__") "__get__" = some (some (.builtin "getset_descriptor.__get__")))
  (tk_NoRule:PySem.W.takesIn K (.builtin "object.__class__")=some true)
  (ob_NoRule:PySem.W.mroIn K d_NoRule (.type "object")=some true)
  (be_NoRule:PySem.W.mroIn K d_NoRule (.type "BaseException")=some true)
  (x_NoNumber:PySem.W.excIn K d_NoNumber vbm "ValueError.__new__" = true)
  (ic_NoNumber:PySem.W.isClsIn K d_NoNumber=true)
  (ga_NoNumber:PySem.W.findIn K (.ref d_NoNumber) "__getattribute__" = some (some (.builtin "BaseException.__getattribute__")))
  (gt_NoNumber:PySem.W.findIn K (.ref d_NoNumber) "__getattr__" = some none)
  (cl_NoNumber:PySem.W.findIn K (.ref d_NoNumber) "__class__" = some (some (.builtin "object.__class__")))
  (sg_NoNumber:PySem.W.specialIn K (.builtin "object.__class__") "__get__" = some (some (.builtin "getset_descriptor.__get__")))
  (tk_NoNumber:PySem.W.takesIn K (.builtin "object.__class__")=some true)
  (ob_NoNumber:PySem.W.mroIn K d_NoNumber (.type "object")=some true)
  (be_NoNumber:PySem.W.mroIn K d_NoNumber (.type "BaseException")=some true)
  (x_TooMuch:PySem.W.excIn K d_TooMuch vbm "ValueError.__new__" = true)
  (ic_TooMuch:PySem.W.isClsIn K d_TooMuch=true)
  (ga_TooMuch:PySem.W.findIn K (.ref d_TooMuch) "__getattribute__" = some (some (.builtin "BaseException.__getattribute__")))
  (gt_TooMuch:PySem.W.findIn K (.ref d_TooMuch) "__getattr__" = some none)
  (cl_TooMuch:PySem.W.findIn K (.ref d_TooMuch) "__class__" = some (some (.builtin "object.__class__")))
  (sg_TooMuch:PySem.W.specialIn K (.builtin "object.__class__") "__get__" = some (some (.builtin "getset_descriptor.__get__")))
  (tk_TooMuch:PySem.W.takesIn K (.builtin "object.__class__")=some true)
  (ob_TooMuch:PySem.W.mroIn K d_TooMuch (.type "object")=some true)
  (be_TooMuch:PySem.W.mroIn K d_TooMuch (.type "BaseException")=some true)
  (t_NoRule:PySem.W.typeIn K (.ref d_NoRule)=some (.type "type")) (s_NoRule:PySem.W.isClsIn K d_NoRule=true) (u_NoRule:PySem.W.subIn K (.ref d_NoRule) (.type "BaseException")=some true)
  (t_StretchError:PySem.W.typeIn K (.ref d_StretchError)=some (.type "type")) (s_StretchError:PySem.W.isClsIn K d_StretchError=true) (u_StretchError:PySem.W.subIn K (.ref d_StretchError) (.type "BaseException")=some true)
  (t_TooMuch:PySem.W.typeIn K (.ref d_TooMuch)=some (.type "type")) (s_TooMuch:PySem.W.isClsIn K d_TooMuch=true) (u_TooMuch:PySem.W.subIn K (.ref d_TooMuch) (.type "BaseException")=some true)
  (t_NotSure:PySem.W.typeIn K (.ref d_NotSure)=some (.type "type")) (s_NotSure:PySem.W.isClsIn K d_NotSure=true) (u_NotSure:PySem.W.subIn K (.ref d_NotSure) (.type "BaseException")=some true)
  {f_ini:Addr}{od_ini an_ini:Option Addr}{sl_ini:Array (Option Value)}{oc_ini kV_ini dc_ini pm_ini cd_ini ct_ini:Value}
  (a_ini:PySem.W.findIn K (.ref d_NotSure) "__init__" = some (some (.ref f_ini))) (l_ini:K.lookup f_ini=some ⟨oc_ini,od_ini,.func (PySem.W.fnOf "__init__" "NotSure.__init__" (defArgs s_ini) (defBody s_ini) (defScope s_ini) .none kV_ini dc_ini pm_ini an_ini cd_ini ct_ini),sl_ini⟩) (c_ini:PySem.W.codeIn K cd_ini "NotSure.__init__" = true) (k_ini:PySem.W.keepIn K (.ref f_ini)=true)
  (xi_NotSure:L2.xinitIn K d_NotSure f_ini=true) (fn_NotSure:PySem.W.isFn K (.ref f_ini)=true) (kc_NotSure:PySem.W.keepIn K (.ref d_NotSure)=true)
  (sa_NotSure:PySem.W.findIn K (.ref d_NotSure) "__setattr__" = some (some (.builtin "object.__setattr__"))) (at_NotSure:PySem.W.findIn K (.ref d_NotSure) "at" = some none) (st_NotSure:(PySem.W.clsIn K d_NotSure).any (λ cd=>L2.valMro cd.mro && cd.hasDict)=true)
  (hd_NotSure:PySem.W.hasDictIn K d_NotSure=true) (sb_NotSure:PySem.W.subIn K (.ref d_NotSure) (.type "BaseException")=some true) (ic_NotSure:PySem.W.isClsIn K d_NotSure=true)
  (ga_NotSure:PySem.W.findIn K (.ref d_NotSure) "__getattribute__" = some (some (.builtin "BaseException.__getattribute__")))
  (gt_NotSure:PySem.W.findIn K (.ref d_NotSure) "__getattr__" = some none)
  (cl_NotSure:PySem.W.findIn K (.ref d_NotSure) "__class__" = some (some (.builtin "object.__class__")))
  (sg_NotSure:PySem.W.specialIn K (.builtin "object.__class__") "__get__" = some (some (.builtin "getset_descriptor.__get__")))
  (tk_NotSure:PySem.W.takesIn K (.builtin "object.__class__")=some true)
  (ob_NotSure:PySem.W.mroIn K d_NotSure (.type "object")=some true)
  (be_NotSure:PySem.W.mroIn K d_NotSure (.type "BaseException")=some true)
  (f_sub:PySem.W.subIn K (.ref d_NoRule) (.ref d_NoRule)=some true)
  (f_suTooMuchS:PySem.W.subIn K (.ref d_TooMuch) (.ref d_StretchError)=some true)
  (f_suNotSureS:PySem.W.subIn K (.ref d_NotSure) (.ref d_StretchError)=some true)
  (f_suTT:PySem.W.subIn K (.ref d_TooMuch) (.ref d_TooMuch)=some true)
  (f_suNT:PySem.W.subIn K (.ref d_NotSure) (.ref d_TooMuch)=some false)
  (f_suNN:PySem.W.subIn K (.ref d_NotSure) (.ref d_NotSure)=some true)
  (f_kTooMuchNoName:PySem.W.kitOne K (.ref d_TooMuch) (.ref d_NoName)=some false)
  (f_kTooMuchNoNumber:PySem.W.kitOne K (.ref d_TooMuch) (.ref d_NoNumber)=some false)
  (f_kTooMuchNoPlan:PySem.W.kitOne K (.ref d_TooMuch) (.ref d_NoPlan)=some false)
  (f_kTooMuchNoRow:PySem.W.kitOne K (.ref d_TooMuch) (.ref d_NoRow)=some false)
  (f_kTooMuchNoRule:PySem.W.kitOne K (.ref d_TooMuch) (.ref d_NoRule)=some false)
  (f_kTooMuchNoText:PySem.W.kitOne K (.ref d_TooMuch) (.ref d_NoText)=some false)
  (f_kTooMuchS:PySem.W.kitOne K (.ref d_TooMuch) (.ref d_StretchError)=some true)
  (f_kTooMuchV:PySem.W.kitOne K (.ref d_TooMuch) (.type "ValueError")=some true)
  (f_kTooMuchTooMuch:PySem.W.kitOne K (.ref d_TooMuch) (.ref d_TooMuch)=some true)
  (f_kTooMuchNotSure:PySem.W.kitOne K (.ref d_TooMuch) (.ref d_NotSure)=some false)
  (f_kNotSureNoName:PySem.W.kitOne K (.ref d_NotSure) (.ref d_NoName)=some false)
  (f_kNotSureNoNumber:PySem.W.kitOne K (.ref d_NotSure) (.ref d_NoNumber)=some false)
  (f_kNotSureNoPlan:PySem.W.kitOne K (.ref d_NotSure) (.ref d_NoPlan)=some false)
  (f_kNotSureNoRow:PySem.W.kitOne K (.ref d_NotSure) (.ref d_NoRow)=some false)
  (f_kNotSureNoRule:PySem.W.kitOne K (.ref d_NotSure) (.ref d_NoRule)=some false)
  (f_kNotSureNoText:PySem.W.kitOne K (.ref d_NotSure) (.ref d_NoText)=some false)
  (f_kNotSureS:PySem.W.kitOne K (.ref d_NotSure) (.ref d_StretchError)=some true)
  (f_kNotSureV:PySem.W.kitOne K (.ref d_NotSure) (.type "ValueError")=some true)
  (f_kNotSureTooMuch:PySem.W.kitOne K (.ref d_NotSure) (.ref d_TooMuch)=some false)
  (f_kNotSureNotSure:PySem.W.kitOne K (.ref d_NotSure) (.ref d_NotSure)=some true) {cT T_:Addr}{oT:Value}{dT:Option Addr}{vsT:Array Value}{slT:Array (Option Value)} (hcT:cd_tgt=.ref cT) (lcT:K.lookup cT=some ⟨oT,dT,.fields vsT,slT⟩) (hvT:(vsT[11]? : Option Value)=some (.ref T_)) (tn:K.lookup T_=none) (ts:T_≠cStatics) :
  ∃ (c T:Addr) (fd:FuncData),PySem.W.tabIn K "tight" = some (c,T)/\K.lookup T=none/\T≠cStatics/\(∀ (s:Shared) (v:Value),BindsTo s fd ⟨[v],[]⟩ [("_law_script",v)]) /\
   ∀ base:Heap,K.In base->base.Ns mainGlobals mg->PySem.W.CodeHd base c T->base.BuiltinsAt mg T->FnOk l.prog w K mg base CX0 16 fa fd ["_law_script"] (spLaw K T):=by
 have tb:PySem.W.tabIn K "tight" = some (cT,T_):=L2.tab_mk a_tgt l_tgt hcT lcT hvT
 have e:=hfa.symm.trans (PySem.W.mg_of X G a_law)
 cases e
 have T:Txt mg:=⟨PySem.W.mg_none_of X G z_range,PySem.W.mg_none_of X G z_min,PySem.W.mg_none_of X G z_max,PySem.W.mg_none_of X G z_len,PySem.W.mg_none_of X G z_isinstance,PySem.W.mg_none_of X G z_int,PySem.W.mg_none_of X G z_bool,PySem.W.mg_none_of X G z_tuple,PySem.W.mg_none_of X G z_abs,PySem.W.mg_none_of X G z_all,PySem.W.mg_none_of X G z_zip,PySem.W.mg_none_of X G z_sum,PySem.W.mg_none_of X G z_list,PySem.W.mg_none_of X G z_sorted,PySem.W.mg_none_of X G z_reversed,PySem.W.mg_none_of X G z_ValueError⟩
 have cf:CF K mg ⟨d_StretchError,d_NoNumber,d_NoRule,d_NotSure,d_TooMuch,d_NoPlan,d_NoText,d_NoName,d_NoRow,f_ini⟩:=⟨PySem.W.mg_of X G n_StretchError,PySem.W.mg_of X G n_NoNumber,PySem.W.mg_of X G n_NoRule,PySem.W.mg_of X G n_NotSure,PySem.W.mg_of X G n_TooMuch,PySem.W.mg_of X G n_NoPlan,PySem.W.mg_of X G n_NoText,PySem.W.mg_of X G n_NoName,PySem.W.mg_of X G n_NoRow,⟨PySem.W.mg_of X G n_NoRule,x_NoRule⟩,⟨PySem.W.mg_of X G n_NoNumber,x_NoNumber⟩,⟨PySem.W.mg_of X G n_TooMuch,x_TooMuch⟩,⟨t_NoRule,s_NoRule,u_NoRule⟩,⟨t_StretchError,s_StretchError,u_StretchError⟩,⟨t_TooMuch,s_TooMuch,u_TooMuch⟩,⟨t_NotSure,s_NotSure,u_NotSure⟩,⟨ga_NoRule,gt_NoRule,cl_NoRule,sg_NoRule,tk_NoRule,ob_NoRule,be_NoRule,ic_NoRule⟩,⟨ga_NoNumber,gt_NoNumber,cl_NoNumber,sg_NoNumber,tk_NoNumber,ob_NoNumber,be_NoNumber,ic_NoNumber⟩,⟨ga_TooMuch,gt_TooMuch,cl_TooMuch,sg_TooMuch,tk_TooMuch,ob_TooMuch,be_TooMuch,ic_TooMuch⟩,⟨xi_NotSure,fn_NotSure,kc_NotSure⟩,⟨sa_NotSure,at_NotSure,st_NotSure⟩,⟨ga_NotSure,gt_NotSure,at_NotSure,hd_NotSure,sb_NotSure⟩,⟨ga_NotSure,gt_NotSure,cl_NotSure,sg_NotSure,tk_NotSure,ob_NotSure,be_NotSure,ic_NotSure⟩,f_sub,f_suTooMuchS,f_suNotSureS,f_suTT,f_suNT,f_suNN,f_kTooMuchNoName,f_kTooMuchNoNumber,f_kTooMuchNoPlan,f_kTooMuchNoRow,f_kTooMuchNoRule,f_kTooMuchNoText,f_kTooMuchS,f_kTooMuchV,f_kTooMuchTooMuch,f_kTooMuchNotSure,f_kNotSureNoName,f_kNotSureNoNumber,f_kNotSureNoPlan,f_kNotSureNoRow,f_kNotSureNoRule,f_kNotSureNoText,f_kNotSureS,f_kNotSureV,f_kNotSureTooMuch,f_kNotSureNotSure⟩
 have F_whole:=fun_mk (st:=s_whole) l_whole c_whole k_whole
 have b_whole:=F_whole.binds (ps:=["thing"]) λ _ _ _ _ _ _ us hl=>match us,hl with | [_],_=>rfl
 have m_whole:=PySem.W.mg_of X G a_whole
 have F_share:=fun_mk (st:=s_share) l_share c_share k_share
 have b_share:=F_share.binds (ps:=["thing"]) λ _ _ _ _ _ _ us hl=>match us,hl with | [_],_=>rfl
 have m_share:=PySem.W.mg_of X G a_share
 have F_wpair:=fun_mk (st:=s_wpair) l_wpair c_wpair k_wpair
 have b_wpair:=F_wpair.binds (ps:=["thing"]) λ _ _ _ _ _ _ us hl=>match us,hl with | [_],_=>rfl
 have m_wpair:=PySem.W.mg_of X G a_wpair
 have F_cd:=fun_mk (st:=s_cd) l_cd c_cd k_cd
 have b_cd:=F_cd.binds (ps:=["one","other"]) λ _ _ _ _ _ _ us hl=>match us,hl with | [_,_],_=>rfl
 have m_cd:=PySem.W.mg_of X G a_cd
 have F_frac:=fun_mk (st:=s_frac) l_frac c_frac k_frac
 have b_frac:=F_frac.binds (ps:=["top","bottom"]) λ _ _ _ _ _ _ us hl=>match us,hl with | [_,_],_=>rfl
 have m_frac:=PySem.W.mg_of X G a_frac
 have F_plus:=fun_mk (st:=s_plus) l_plus c_plus k_plus
 have b_plus:=F_plus.binds (ps:=["one","other"]) λ _ _ _ _ _ _ us hl=>match us,hl with | [_,_],_=>rfl
 have m_plus:=PySem.W.mg_of X G a_plus
 have F_minus:=fun_mk (st:=s_minus) l_minus c_minus k_minus
 have b_minus:=F_minus.binds (ps:=["one","other"]) λ _ _ _ _ _ _ us hl=>match us,hl with | [_,_],_=>rfl
 have m_minus:=PySem.W.mg_of X G a_minus
 have F_und:=fun_mk (st:=s_und) l_und c_und k_und
 have b_und:=F_und.binds (ps:=["one","other"]) λ _ _ _ _ _ _ us hl=>match us,hl with | [_,_],_=>rfl
 have m_und:=PySem.W.mg_of X G a_und
 have F_cho:=fun_mk (st:=s_cho) l_cho c_cho k_cho
 have b_cho:=F_cho.binds (ps:=["n","k"]) λ _ _ _ _ _ _ us hl=>match us,hl with | [_,_],_=>rfl
 have m_cho:=PySem.W.mg_of X G a_cho
 have F_pow:=fun_mk (st:=s_pow) l_pow c_pow k_pow
 have b_pow:=F_pow.binds (ps:=["base","count"]) λ _ _ _ _ _ _ us hl=>match us,hl with | [_,_],_=>rfl
 have m_pow:=PySem.W.mg_of X G a_pow
 have F_wtop:=fun_mk (st:=s_wtop) l_wtop c_wtop k_wtop
 have b_wtop:=F_wtop.binds (ps:=["n","k","p"]) λ _ _ _ _ _ _ us hl=>match us,hl with | [_,_,_],_=>rfl
 have m_wtop:=PySem.W.mg_of X G a_wtop
 have F_rsum:=fun_mk (st:=s_rsum) l_rsum c_rsum k_rsum
 have b_rsum:=F_rsum.binds (ps:=["n","i","j","p"]) λ _ _ _ _ _ _ us hl=>match us,hl with | [_,_,_,_],_=>rfl
 have m_rsum:=PySem.W.mg_of X G a_rsum
 have F_ruleof:=fun_mk (st:=s_ruleof) l_ruleof c_ruleof k_ruleof
 have b_ruleof:=F_ruleof.binds (ps:=["n","stretches"]) λ _ _ _ _ _ _ us hl=>match us,hl with | [_,_],_=>rfl
 have m_ruleof:=PySem.W.mg_of X G a_ruleof
 have F_rowof:=fun_mk (st:=s_rowof) l_rowof c_rowof k_rowof
 have b_rowof:=F_rowof.binds (ps:=["thing","count"]) λ _ _ _ _ _ _ us hl=>match us,hl with | [_,_],_=>rfl
 have m_rowof:=PySem.W.mg_of X G a_rowof
 have F_str:=fun_mk (st:=s_str) l_str c_str k_str
 have b_str:=F_str.binds (ps:=["thing"]) λ _ _ _ _ _ _ us hl=>match us,hl with | [_],_=>rfl
 have m_str:=PySem.W.mg_of X G a_str
 have F_held:=fun_mk (st:=s_held) l_held c_held k_held
 have b_held:=F_held.binds (ps:=["rule","p"]) λ _ _ _ _ _ _ us hl=>match us,hl with | [_,_],_=>rfl
 have m_held:=PySem.W.mg_of X G a_held
 have F_rov:=fun_mk (st:=s_rov) l_rov c_rov k_rov
 have b_rov:=F_rov.binds (ps:=["rule","a","b"]) λ _ _ _ _ _ _ us hl=>match us,hl with | [_,_,_],_=>rfl
 have m_rov:=PySem.W.mg_of X G a_rov
 have F_cov:=fun_mk (st:=s_cov) l_cov c_cov k_cov
 have b_cov:=F_cov.binds (ps:=["rule","p"]) λ _ _ _ _ _ _ us hl=>match us,hl with | [_,_],_=>rfl
 have m_cov:=PySem.W.mg_of X G a_cov
 have F_sor:=fun_mk (st:=s_sor) l_sor c_sor k_sor
 have b_sor:=F_sor.binds (ps:=["n","run","p"]) λ _ _ _ _ _ _ us hl=>match us,hl with | [_,_,_],_=>rfl
 have m_sor:=PySem.W.mg_of X G a_sor
 have F_edges:=fun_mk (st:=s_edges) l_edges c_edges k_edges
 have b_edges:=F_edges.binds (ps:=["rule"]) λ _ _ _ _ _ _ us hl=>match us,hl with | [_],_=>rfl
 have m_edges:=PySem.W.mg_of X G a_edges
 have F_pieces:=fun_mk (st:=s_pieces) l_pieces c_pieces k_pieces
 have b_pieces:=F_pieces.binds (ps:=["rule"]) λ _ _ _ _ _ _ us hl=>match us,hl with | [_],_=>rfl
 have m_pieces:=PySem.W.mg_of X G a_pieces
 have F_with:=fun_mk (st:=s_with) l_with c_with k_with
 have b_with:=F_with.binds (ps:=["one","other"]) λ _ _ _ _ _ _ us hl=>match us,hl with | [_,_],_=>rfl
 have m_with:=PySem.W.mg_of X G a_with
 have F_least:=fun_mk (st:=s_least) l_least c_least k_least
 have b_least:=F_least.binds (ps:=["rule"]) λ _ _ _ _ _ _ us hl=>match us,hl with | [_],_=>rfl
 have m_least:=PySem.W.mg_of X G a_least
 have F_lpl:=fun_mk (st:=s_lpl) l_lpl c_lpl k_lpl
 have b_lpl:=F_lpl.binds (ps:=["rule"]) λ _ _ _ _ _ _ us hl=>match us,hl with | [_],_=>rfl
 have m_lpl:=PySem.W.mg_of X G a_lpl
 have F_sure:=fun_mk (st:=s_sure) l_sure c_sure k_sure
 have b_sure:=F_sure.binds (ps:=["rule","share"]) λ _ _ _ _ _ _ us hl=>match us,hl with | [_,_],_=>rfl
 have m_sure:=PySem.W.mg_of X G a_sure
 have F_lack:=fun_mk (st:=s_lack) l_lack c_lack k_lack
 have b_lack:=F_lack.binds (ps:=["rule","share","at","far"]) λ _ _ _ _ _ _ us hl=>match us,hl with | [_,_,_,_],_=>rfl
 have m_lack:=PySem.W.mg_of X G a_lack
 have F_lks:=fun_mk (st:=s_lks) l_lks c_lks k_lks
 have b_lks:=F_lks.binds (ps:=["rule","share","p"]) λ _ _ _ _ _ _ us hl=>match us,hl with | [_,_,_],_=>rfl
 have m_lks:=PySem.W.mg_of X G a_lks
 have F_shb:=fun_mk (st:=s_shb) l_shb c_shb k_shb
 have b_shb:=F_shb.binds (ps:=["at","far","halvings"]) λ _ _ _ _ _ _ us hl=>match us,hl with | [_,_,_],_=>rfl
 have m_shb:=PySem.W.mg_of X G a_shb
 have F_sim:=fun_mk (st:=s_sim) l_sim c_sim k_sim
 have b_sim:=F_sim.binds (ps:=["low","high"]) λ _ _ _ _ _ _ us hl=>match us,hl with | [_,_],_=>rfl
 have m_sim:=PySem.W.mg_of X G a_sim
 have F_wterm:=fun_mk (st:=s_wterm) l_wterm c_wterm k_wterm
 have b_wterm:=F_wterm.binds (ps:=["term","last","before"]) λ _ _ _ _ _ _ us hl=>match us,hl with | [_,_,_],_=>rfl
 have m_wterm:=PySem.W.mg_of X G a_wterm
 have F_mov:=fun_mk (st:=s_mov) l_mov c_mov k_mov
 have b_mov:=F_mov.binds (ps:=["rule","k","end","measure"]) λ _ _ _ _ _ _ us hl=>match us,hl with | [_,_,_,_],_=>rfl
 have m_mov:=PySem.W.mg_of X G a_mov
 have F_we:=fun_mk (st:=s_we) l_we c_we k_we
 have b_we:=F_we.binds (ps:=["stretches","k","end","value"]) λ _ _ _ _ _ _ us hl=>match us,hl with | [_,_,_,_],_=>rfl
 have m_we:=PySem.W.mg_of X G a_we
 have F_tgt:=fun_mk (st:=s_tgt) l_tgt c_tgt k_tgt
 have b_tgt:=F_tgt.binds (ps:=["rule","share","measure"]) λ _ _ _ _ _ _ us hl=>match us,hl with | [_,_,_],_=>rfl
 have m_tgt:=PySem.W.mg_of X G a_tgt
 have F_swm:=fun_mk (st:=s_swm) l_swm c_swm k_swm
 have b_swm:=F_swm.binds (ps:=["rule","k","end","share","measure"]) λ _ _ _ _ _ _ us hl=>match us,hl with | [_,_,_,_,_],_=>rfl
 have m_swm:=PySem.W.mg_of X G a_swm
 have F_mt:=fun_mk (st:=s_mt) l_mt c_mt k_mt
 have b_mt:=F_mt.binds (ps:=["rule","n","move"]) λ _ _ _ _ _ _ us hl=>match us,hl with | [_,_,_],_=>rfl
 have m_mt:=PySem.W.mg_of X G a_mt
 have F_cell:=fun_mk (st:=s_cell) l_cell c_cell k_cell
 have b_cell:=F_cell.binds (ps:=["_law_script","_law_k"]) λ _ _ _ _ _ _ us hl=>match us,hl with | [_,_],_=>rfl
 have m_cell:=PySem.W.mg_of X G a_cell
 have F_stream:=fun_mk (st:=s_stream) l_stream c_stream k_stream
 have b_stream:=F_stream.binds (ps:=["_law_cell","_law_salt","_law_many"]) λ _ _ _ _ _ _ us hl=>match us,hl with | [_,_,_],_=>rfl
 have m_stream:=PySem.W.mg_of X G a_stream
 have F_dv:=fun_mk (st:=s_dv) l_dv c_dv k_dv
 have b_dv:=F_dv.binds (ps:=["_law_one","_law_other"]) λ _ _ _ _ _ _ us hl=>match us,hl with | [_,_],_=>rfl
 have m_dv:=PySem.W.mg_of X G a_dv
 have F_low:=fun_mk (st:=s_low) l_low c_low k_low
 have b_low:=F_low.binds (ps:=["_law_top","_law_bottom"]) λ _ _ _ _ _ _ us hl=>match us,hl with | [_,_],_=>rfl
 have m_low:=PySem.W.mg_of X G a_low
 have F_nm:=fun_mk (st:=s_nm) l_nm c_nm k_nm
 have b_nm:=F_nm.binds (ps:=["_law_one","_law_other"]) λ _ _ _ _ _ _ us hl=>match us,hl with | [_,_],_=>rfl
 have m_nm:=PySem.W.mg_of X G a_nm
 have F_pows:=fun_mk (st:=s_pows) l_pows c_pows k_pows
 have b_pows:=F_pows.binds (ps:=["_law_number","_law_many"]) λ _ _ _ _ _ _ us hl=>match us,hl with | [_,_],_=>rfl
 have m_pows:=PySem.W.mg_of X G a_pows
 have F_chs:=fun_mk (st:=s_chs) l_chs c_chs k_chs
 have b_chs:=F_chs.binds (ps:=["_law_n"]) λ _ _ _ _ _ _ us hl=>match us,hl with | [_],_=>rfl
 have m_chs:=PySem.W.mg_of X G a_chs
 have F_cvr:=fun_mk (st:=s_cvr) l_cvr c_cvr k_cvr
 have b_cvr:=F_cvr.binds (ps:=["_law_rule","_law_p"]) λ _ _ _ _ _ _ us hl=>match us,hl with | [_,_],_=>rfl
 have m_cvr:=PySem.W.mg_of X G a_cvr
 have F_stp:=fun_mk (st:=s_stp) l_stp c_stp k_stp
 have b_stp:=F_stp.binds (ps:=["_law_script","_law_n","_law_measure"]) λ _ _ _ _ _ _ us hl=>match us,hl with | [_,_,_],_=>rfl
 have m_stp:=PySem.W.mg_of X G a_stp
 have F_spn:=fun_mk (st:=s_spn) l_spn c_spn k_spn
 have b_spn:=F_spn.binds (ps:=["rule"]) λ _ _ _ _ _ _ us hl=>match us,hl with | [_],_=>rfl
 have m_spn:=PySem.W.mg_of X G a_spn
 have F_lsh:=fun_mk (st:=s_lsh) l_lsh c_lsh k_lsh
 have b_lsh:=F_lsh.binds (ps:=["_law_script","_law_low"]) λ _ _ _ _ _ _ us hl=>match us,hl with | [_,_],_=>rfl
 have m_lsh:=PySem.W.mg_of X G a_lsh
 have F_noo:=fun_mk (st:=s_noo) l_noo c_noo k_noo
 have b_noo:=F_noo.binds (ps:=["_law_error"]) λ _ _ _ _ _ _ us hl=>match us,hl with | [_],_=>rfl
 have m_noo:=PySem.W.mg_of X G a_noo
 have F_tld:=fun_mk (st:=s_tld) l_tld c_tld k_tld
 have b_tld:=F_tld.binds (ps:=["_law_rule","_law_share_here","_law_measure","_law_base"]) λ _ _ _ _ _ _ us hl=>match us,hl with | [_,_,_,_],_=>rfl
 have m_tld:=PySem.W.mg_of X G a_tld
 have F_ltg:=fun_mk (st:=s_ltg) l_ltg c_ltg k_ltg
 have b_ltg:=F_ltg.binds (ps:=["_law_found","_law_share_here","_law_measure","_law_n"]) λ _ _ _ _ _ _ us hl=>match us,hl with | [_,_,_,_],_=>rfl
 have m_ltg:=PySem.W.mg_of X G a_ltg
 have F_rgt:=fun_mk (st:=s_rgt) l_rgt c_rgt k_rgt
 have b_rgt:=F_rgt.binds (ps:=["_law_rule","_law_share_here","_law_measure","_law_told_here","_law_low"]) λ _ _ _ _ _ _ us hl=>match us,hl with | [_,_,_,_,_],_=>rfl
 have m_rgt:=PySem.W.mg_of X G a_rgt
 have F_law:=fun_mk (st:=s_law) l_law c_law k_law
 have b_law:=F_law.binds (ps:=["_law_script"]) λ _ _ _ _ _ _ us hl=>match us,hl with | [_],_=>rfl
 have m_law:=PySem.W.mg_of X G a_law
 have F_ini:=fun_mk (st:=s_ini) l_ini c_ini k_ini
 have b_ini:=F_ini.binds (ps:=["self","at"]) λ _ _ _ _ _ _ us hl=>match us,hl with | [_,_],_=>rfl
 refine⟨cT,T_,PySem.W.fnOf "law" "law" (defArgs s_law) (defBody s_law) (defScope s_law) .none kV_law dc_law pm_law an_law cd_law ct_law,tb,tn,ts,λ s v=>.of_eq rfl,λ base _ _ hC_ hB_=>?_⟩
 have G_cell:=ok_cell (P:=l.prog) (w:=w) (base:=base) F_cell T
 have G_stream:=ok_stream (P:=l.prog) (w:=w) (base:=base) F_stream T
 have G_stp:=ok_stp (P:=l.prog) (w:=w) (base:=base) F_stp T (G_cell.mono (by decide)) b_cell k_cell m_cell (G_stream.mono (by decide)) b_stream k_stream m_stream
 have G_dv:=ok_dv (P:=l.prog) (w:=w) (base:=base) F_dv T
 have G_low:=ok_low (P:=l.prog) (w:=w) (base:=base) F_low T (G_dv.mono (by decide)) b_dv k_dv m_dv
 have G_whole:=ok_whole (P:=l.prog) (w:=w) (base:=base) F_whole T
 have G_rowof:=ok_rowof (P:=l.prog) (w:=w) (base:=base) F_rowof T
 have G_wpair:=ok_wpair (P:=l.prog) (w:=w) (base:=base) F_wpair T (G_whole.mono (by decide)) b_whole k_whole m_whole
 have G_cd:=ok_cd (P:=l.prog) (w:=w) (base:=base) F_cd T
 have G_share:=ok_share (P:=l.prog) (w:=w) (base:=base) F_share T (G_wpair.mono (by decide)) b_wpair k_wpair m_wpair (G_cd.mono (by decide)) b_cd k_cd m_cd
 have G_und:=ok_und (P:=l.prog) (w:=w) (base:=base) F_und T
 have G_str:=ok_str (P:=l.prog) (w:=w) (base:=base) F_str T cf (G_rowof.mono (by decide)) b_rowof k_rowof m_rowof (G_share.mono (by decide)) b_share k_share m_share (G_und.mono (by decide)) b_und k_und m_und
 have G_ruleof:=ok_ruleof (P:=l.prog) (w:=w) (base:=base) F_ruleof T cf (G_whole.mono (by decide)) b_whole k_whole m_whole (G_rowof.mono (by decide)) b_rowof k_rowof m_rowof (G_str.mono (by decide)) b_str k_str m_str (G_und.mono (by decide)) b_und k_und m_und
 have G_edges:=ok_edges (P:=l.prog) (w:=w) (base:=base) F_edges T ((G_und.imp undI_of).mono (by decide)) b_und k_und m_und
 have G_rov:=ok_rov (P:=l.prog) (w:=w) (base:=base) F_rov T ((G_und.imp undI_of).mono (by decide)) b_und k_und m_und
 have G_pieces:=ok_pieces (P:=l.prog) (w:=w) (base:=base) F_pieces T (G_edges.mono (by decide)) b_edges k_edges m_edges (G_rov.mono (by decide)) b_rov k_rov m_rov
 have G_cho:=ok_cho (P:=l.prog) (w:=w) (base:=base) F_cho T
 have G_pow:=ok_pow (P:=l.prog) (w:=w) (base:=base) F_pow T
 have G_wtop:=ok_wtop (P:=l.prog) (w:=w) (base:=base) F_wtop T (G_cho.mono (by decide)) b_cho k_cho m_cho (G_pow.mono (by decide)) b_pow k_pow m_pow
 have G_frac:=ok_frac (P:=l.prog) (w:=w) (base:=base) F_frac T cf (G_whole.mono (by decide)) b_whole k_whole m_whole (G_cd.mono (by decide)) b_cd k_cd m_cd
 have G_rsum:=ok_rsum (P:=l.prog) (w:=w) (base:=base) F_rsum T (G_wtop.mono (by decide)) b_wtop k_wtop m_wtop (G_pow.mono (by decide)) b_pow k_pow m_pow (G_frac.mono (by decide)) b_frac k_frac m_frac
 have G_sor:=ok_sor (P:=l.prog) (w:=w) (base:=base) F_sor T (G_rsum.mono (by decide)) b_rsum k_rsum m_rsum
 have G_lpl:=ok_lpl (P:=l.prog) (w:=w) (base:=base) F_lpl T (G_pieces.mono (by decide)) b_pieces k_pieces m_pieces (G_sor.mono (by decide)) b_sor k_sor m_sor ((G_und.imp undI_of).mono (by decide)) b_und k_und m_und
 have G_least:=ok_least (P:=l.prog) (w:=w) (base:=base) F_least T (G_lpl.mono (by decide)) b_lpl k_lpl m_lpl
 have G_nm:=ok_nm (P:=l.prog) (w:=w) (base:=base) F_nm T
 have G_lsh:=ok_lsh (P:=l.prog) (w:=w) (base:=base) F_lsh T (G_cell.mono (by decide)) b_cell k_cell m_cell (G_nm.mono (by decide)) b_nm k_nm m_nm (G_low.mono (by decide)) b_low k_low m_low
 have G_held:=ok_held (P:=l.prog) (w:=w) (base:=base) F_held T (G_rov.mono (by decide)) b_rov k_rov m_rov
 have G_cov:=ok_cov (P:=l.prog) (w:=w) (base:=base) F_cov T (G_held.mono (by decide)) b_held k_held m_held (G_sor.mono (by decide)) b_sor k_sor m_sor
 have G_lks:=ok_lks (P:=l.prog) (w:=w) (base:=base) F_lks T (G_cov.mono (by decide)) b_cov k_cov m_cov ((G_und.imp undI_of).mono (by decide)) b_und k_und m_und
 have G_minus:=ok_minus (P:=l.prog) (w:=w) (base:=base) F_minus T (G_frac.mono (by decide)) b_frac k_frac m_frac
 have G_plus:=ok_plus (P:=l.prog) (w:=w) (base:=base) F_plus T (G_frac.mono (by decide)) b_frac k_frac m_frac
 have G_wterm:=ok_wterm (P:=l.prog) (w:=w) (base:=base) F_wterm T
 have G_sim:=ok_sim (P:=l.prog) (w:=w) (base:=base) F_sim T (G_wterm.mono (by decide)) b_wterm k_wterm m_wterm
 have G_shb:=ok_shb (P:=l.prog) (w:=w) (base:=base) F_shb T (G_minus.mono (by decide)) b_minus k_minus m_minus (G_plus.mono (by decide)) b_plus k_plus m_plus (G_frac.mono (by decide)) b_frac k_frac m_frac (G_pow.mono (by decide)) b_pow k_pow m_pow ((G_und.imp undI_of).mono (by decide)) b_und k_und m_und (G_sim.mono (by decide)) b_sim k_sim m_sim
 have G_lack:=ok_lack (P:=l.prog) (w:=w) (base:=base) F_lack T (G_lks.mono (by decide)) b_lks k_lks m_lks (G_shb.mono (by decide)) b_shb k_shb m_shb
 have G_sure:=ok_sure (P:=l.prog) (w:=w) (base:=base) F_sure T (G_lpl.mono (by decide)) b_lpl k_lpl m_lpl ((G_und.imp undI_of).mono (by decide)) b_und k_und m_und (G_lack.mono (by decide)) b_lack k_lack m_lack (G_cov.mono (by decide)) b_cov k_cov m_cov
 have G_we:=ok_we (P:=l.prog) (w:=w) (base:=base) F_we T
 have G_mov:=ok_mov (P:=l.prog) (w:=w) (base:=base) F_mov T cf (G_frac.mono (by decide)) b_frac k_frac m_frac (G_plus.mono (by decide)) b_plus k_plus m_plus (G_minus.mono (by decide)) b_minus k_minus m_minus (G_ruleof.mono (by decide)) b_ruleof k_ruleof m_ruleof (G_we.mono (by decide)) b_we k_we m_we
 have G_swm:=ok_swm (P:=l.prog) (w:=w) (base:=base) F_swm T (G_mov.mono (by decide)) b_mov k_mov m_mov (G_least.mono (by decide)) b_least k_least m_least ((G_und.imp undI_of).mono (by decide)) b_und k_und m_und
 have G_mt:=ok_mt (P:=l.prog) (w:=w) (base:=base) F_mt T (G_swm.mono (by decide)) b_swm k_swm m_swm
 have G_ini:=ok_ini (P:=l.prog) (w:=w) (base:=base) F_ini T cf
 have G_tgt:=ok_tgt (P:=l.prog) (w:=w) (base:=base) l_tgt c_tgt (tab_code a_tgt l_tgt tb) hC_ hB_ T cf (G_sure.mono (by decide)) b_sure k_sure m_sure (G_mt.mono (by decide)) b_mt k_mt m_mt (G_ini.mono (by decide)) b_ini
 have G_tld:=ok_tld (P:=l.prog) (w:=w) (base:=base) F_tld T cf (G_tgt.mono (by decide)) b_tgt k_tgt m_tgt
 have G_noo:=ok_noo (P:=l.prog) (w:=w) (base:=base) F_noo T cf
 have G_ltg:=ok_ltg (P:=l.prog) (w:=w) (base:=base) F_ltg T (G_nm.mono (by decide)) b_nm k_nm m_nm (G_least.mono (by decide)) b_least k_least m_least (G_mov.mono (by decide)) b_mov k_mov m_mov
 have G_with:=ok_with (P:=l.prog) (w:=w) (base:=base) F_with T ((G_und.imp undI_of).mono (by decide)) b_und k_und m_und
 have G_pows:=ok_pows (P:=l.prog) (w:=w) (base:=base) F_pows T
 have G_chs:=ok_chs (P:=l.prog) (w:=w) (base:=base) F_chs T
 have G_cvr:=ok_cvr (P:=l.prog) (w:=w) (base:=base) F_cvr T (G_pows.mono (by decide)) b_pows k_pows m_pows (G_chs.mono (by decide)) b_chs k_chs m_chs (G_nm.mono (by decide)) b_nm k_nm m_nm
 have G_rgt:=ok_rgt (P:=l.prog) (w:=w) (base:=base) F_rgt T cf (G_noo.mono (by decide)) b_noo k_noo m_noo (G_nm.mono (by decide)) b_nm k_nm m_nm (G_ltg.mono (by decide)) b_ltg k_ltg m_ltg (G_with.mono (by decide)) b_with k_with m_with (G_cvr.mono (by decide)) b_cvr k_cvr m_cvr
 have G_spn:=ok_spn (P:=l.prog) (w:=w) (base:=base) F_spn T (G_plus.mono (by decide)) b_plus k_plus m_plus (G_minus.mono (by decide)) b_minus k_minus m_minus
 exact ok_law F_law T cf (G_cell.mono (by decide)) b_cell k_cell m_cell (G_stp.mono (by decide)) b_stp k_stp m_stp (G_low.mono (by decide)) b_low k_low m_low (G_ruleof.mono (by decide)) b_ruleof k_ruleof m_ruleof (G_least.mono (by decide)) b_least k_least m_least (G_lsh.mono (by decide)) b_lsh k_lsh m_lsh (G_tld.mono (by decide)) b_tld k_tld m_tld (G_rgt.mono (by decide)) b_rgt k_rgt m_rgt (G_spn.mono (by decide)) b_spn k_spn m_spn (G_nm.mono (by decide)) b_nm k_nm m_nm
theorem walk {l:PySem.W.OpenLaw}{q:Program}{loose:List Str}{XP:(Str->Option Value)->Heap->Prop}{YP:World->Heap->Prop}{d:DefRec}{K:Params->PySem.W.Frag} (hn:l.most=some 63) (hdf:d.params.defaults = []) (hrec:((PyProof.Rows.recsOf q).find? (λ e=>e.name == ("tight":Str))).isSome=true)
  (hY:∀ (w:World) (h:Heap),YP w h->(K w.params).In h)
  (F:∀ (w:World) (mg:Str->Option Value) (fa:Addr) (h:Heap),(K w.params).In h->h.Ns mainGlobals mg->mg d.name=some (.ref fa) ->
   ∃ (c T:Addr) (fd:FuncData),PySem.W.tabIn (K w.params) "tight" = some (c,T)/\(K w.params).lookup T=none/\T≠cStatics/\(∀ (s:Shared) (u:Value),BindsTo s fd ⟨[u],[]⟩ [("_law_script",u)]) /\
    ∀ base:Heap,(K w.params).In base->base.Ns mainGlobals mg->PySem.W.CodeHd base c T->base.BuiltinsAt mg T->FnOk l.prog w (K w.params) mg base CX0 16 fa fd ["_law_script"] (spLaw (K w.params) T)) :
  PySem.W.WalkO q loose XP YP l.row.toRowW d [] (λ f vs=>PySem.call f vs) :=
 L2.walk_ofT (n:=63) (k:=16) (x:="_law_script") (sp:=spLaw) hn (by decide) hdf ⟨rfl,by decide,by decide⟩ hrec hY F (λ _ _ _ a ns hl hb hS hT=>⟨a,ns,rfl,hS,hl,hb,hT,λ _=>rfl⟩)
end K28
open PySem PySem.W PyProof.Rows
def PySem.W.Fast.tw4332692945673817543:Nat:=0
def PySem.W.Fast.tw11195445771858378831:Nat:=0
def PySem.W.Fast.tw17732379535243008322:Nat:=0
def PySem.W.Fast.tw5237759327399423612:Nat:=0
def PySem.W.Fast.tw2822499364131167964:Nat:=0
def PySem.W.Fast.tw15265896984126152481:Nat:=0
def PySem.W.Fast.tw12817387448502235915:Nat:=0
def PySem.W.Fast.tw11076430465805993802:Nat:=0
def PySem.W.Fast.tw17021227986652682796:Nat:=0
def PySem.W.Fast.tw11951551319091077247:Nat:=0
def PySem.W.Fast.tw1627616608722064605:Nat:=0
def PySem.W.Fast.tw11564955015100058611:Nat:=0
def PySem.W.Fast.tw13048204322220438549:Nat:=0
def PySem.W.Fast.tw5947257606612726225:Nat:=0
def PySem.W.Fast.tw17199413241197364196:Nat:=0
def PySem.W.Fast.tw13260838834097276193:Nat:=0
def PySem.W.Fast.tw10170431894804279647:Nat:=0
def PySem.W.Fast.tw2478813099892344646:Nat:=0
def PySem.W.Fast.tw2931642919846266075:Nat:=0
def PySem.W.Fast.tw17442494747296224448:Nat:=0
def PySem.W.Fast.tw5164812658239156557:Nat:=0
def PySem.W.Fast.tw11184484324107893973:Nat:=0
def PySem.W.Fast.tw13108313712294683231:Nat:=0
def PySem.W.Fast.tw9044827637906416627:Nat:=0
def PySem.W.Fast.tw4812000482249592673:Nat:=0
def PySem.W.Fast.tw11983448718554705673:Nat:=0
def PySem.W.Fast.tw12780366694614523128:Nat:=0
def PySem.W.Fast.tw1781390397554463277:Nat:=0
def PySem.W.Fast.tw8087203923677370532:Nat:=0
def PySem.W.Fast.tw12735587760083739243:Nat:=0
def PySem.W.Fast.tw15258784649830143241:Nat:=0
def PySem.W.Fast.tw5091503368736427544:Nat:=0
def PySem.W.Fast.tw17103129449938201499:Nat:=0
def PySem.W.Fast.tw13100411653377177326:Nat:=0
def PySem.W.Fast.tw13949825249722642909:Nat:=0
def PySem.W.Fast.tw17116138706248818570:Nat:=0
def PySem.W.Fast.tw17333427458433533162:Nat:=0
def PySem.W.Fast.tw2893947100413195696:Nat:=0
def PySem.W.Fast.tw9968240449602576803:Nat:=0
def PySem.W.Fast.tw16941189569509728027:Nat:=0
def PySem.W.Fast.tw9998726679127719081:Nat:=0
def PySem.W.Fast.tw1638456580484809739:Nat:=0
def PySem.W.Fast.tw1010506097136332774:Nat:=0
def PySem.W.Fast.tw12342022031826866560:Nat:=0
def PySem.W.Fast.tw15843140573240819283:Nat:=0
def PySem.W.Fast.tw5435390464150137861:Nat:=0
def PySem.W.Fast.tw5925041795134417357:Nat:=0
def PySem.W.Fast.tw1596005988459057547:Nat:=0
def PySem.W.Fast.tw12019003259473096667:Nat:=0
def PySem.W.Fast.tw32243051479377723:Nat:=0
def PySem.W.Fast.tw8272292848085683089:Nat:=0
def PySem.W.Fast.tw9438940718431056055:Nat:=0
def PySem.W.Fast.tw11096981793058667060:Nat:=0
def PySem.W.Fast.tw5565927269988083810:Nat:=0
def PySem.W.Fast.tw10954169539256292740:Nat:=0
def PySem.W.Fast.tw6964067358628113966:Nat:=0
def PySem.W.Fast.tw14997514649268323459:Nat:=0
def PySem.W.Fast.tw15672935854892681704:Nat:=0
def PySem.W.Fast.tw11758724424399013247:Nat:=0
def PySem.W.Fast.tw2673510420426029500:Nat:=0
def PySem.W.Fast.tw6108783204093027686:Nat:=0
def PySem.W.Fast.tw3074560068050612769:Nat:=0
def PySem.W.Fast.tw15099749380602431371:Nat:=0
set_option maxRecDepth 100000 in
set_option maxHeartbeats 0 in
theorem PySem.Challenge.cw_surestretch_k28_not_made_tight_holds : PySem.Challenge.rw_surestretch_k28_not_made_tight.Holds := by
 w_on;o_law;k_head;(case hw=>w_witness2)
 k_fill
 refine K28.walk (l:=PySem.Challenge.rw_surestretch_k28_not_made_tight) rfl rfl (by decide +kernel) (λ w h Y=>PySem.W.km_in_of Y) ?F
 case F =>
  intro w mg fa h KX G hmg
  refine' K28.all_mk KX G hmg ?_ ?_ ?_ ?_ ?_ ?_ ?_ ?_ ?_ ?_ ?_ ?_ ?_ ?_ ?_ ?_ ?_ ?_ ?_ ?_ ?_ ?_ ?_ ?_ ?_ ?_ ?_ ?_ ?_ ?_ ?_ ?_ ?_ ?_ ?_ ?_ ?_ ?_ ?_ ?_ ?_ ?_ ?_ ?_ ?_ ?_ ?_ ?_ ?_ ?_ ?_ ?_ ?_ ?_ ?_ ?_ ?_ ?_ ?_ ?_ ?_ ?_ ?_ ?_ ?_ ?_ ?_ ?_ ?_ ?_ ?_ ?_ ?_ ?_ ?_ ?_ ?_ ?_ ?_ ?_ ?_ ?_ ?_ ?_ ?_ ?_ ?_ ?_ ?_ ?_ ?_ ?_ ?_ ?_ ?_ ?_ ?_ ?_ ?_ ?_ ?_ ?_ ?_ ?_ ?_ ?_ ?_ ?_ ?_ ?_ ?_ ?_ ?_ ?_ ?_ ?_ ?_ ?_ ?_ ?_ ?_ ?_ ?_ ?_ ?_ ?_ ?_ ?_ ?_ ?_ ?_ ?_ ?_ ?_ ?_ ?_ ?_ ?_ ?_ ?_ ?_ ?_ ?_ ?_ ?_ ?_ ?_ ?_ ?_ ?_ ?_ ?_ ?_ ?_ ?_ ?_ ?_ ?_ ?_ ?_ ?_ ?_ ?_ ?_ ?_ ?_ ?_ ?_ ?_ ?_ ?_ ?_ ?_ ?_ ?_ ?_ ?_ ?_ ?_ ?_ ?_ ?_ ?_ ?_ ?_ ?_ ?_ ?_ ?_ ?_ ?_ ?_ ?_ ?_ ?_ ?_ ?_ ?_ ?_ ?_ ?_ ?_ ?_ ?_ ?_ ?_ ?_ ?_ ?_ ?_ ?_ ?_ ?_ ?_ ?_ ?_ ?_ ?_ ?_ ?_ ?_ ?_ ?_ ?_ ?_ ?_ ?_ ?_ ?_ ?_ ?_ ?_ ?_ ?_ ?_ ?_ ?_ ?_ ?_ ?_ ?_ ?_ ?_ ?_ ?_ ?_ ?_ ?_ ?_ ?_ ?_ ?_ ?_ ?_ ?_ ?_ ?_ ?_ ?_ ?_ ?_ ?_ ?_ ?_ ?_ ?_ ?_ ?_ ?_ ?_ ?_ ?_ ?_ ?_ ?_ ?_ ?_ ?_ ?_ ?_ ?_ ?_ ?_ ?_ ?_ ?_ ?_ ?_ ?_ ?_ ?_ ?_ ?_ ?_ ?_ ?_ ?_ ?_ ?_ ?_ ?_ ?_ ?_ ?_ ?_ ?_ ?_ ?_ ?_ ?_ ?_ ?_ ?_ ?_ ?_ ?_ ?_ ?_ ?_
  all_goals try first | k_is | kit_is | k_exc | exact rfl | kernel_rfl | decide
